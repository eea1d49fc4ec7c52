package clock

import (
	"math"
	"math/big"
	"math/rand"
	"reflect"
	"slices"
	"testing"

	"noonmark/api"
	"noonmark/drift"
	"noonmark/gap"
)

const top = api.MaxTime

func start(t *testing.T, rho int64, trust int) *Clock {
	t.Helper()
	c, e := New(rho, trust)
	if e != api.OK {
		t.Fatal(e)
	}
	return c
}

func TestP18_1Sample(t *testing.T) {
	for i, c := range []struct {
		s     Sample
		right bool
		trip  int64
	}{
		{Sample{}, true, 0}, {Sample{100, 7, 9, 110}, true, 8}, {Sample{0, top, top, 0}, true, 0}, {Sample{top, 0, top, top}, true, -top}, {Sample{0, 5, 5, top}, true, top},
		{Sample{5, 0, 0, 4}, false, 0}, {Sample{0, 5, 4, 9}, false, 0}, {Sample{-1, 0, 0, 4}, false, 0}, {Sample{0, -1, 0, 4}, false, 0}, {Sample{0, 0, top + 1, 4}, false, 0},
		{Sample{0, 0, 0, top + 1}, false, 0}, {Sample{math.MinInt64, math.MinInt64, math.MaxInt64, math.MaxInt64}, false, 0},
	} {
		if c.s.Right() != c.right || c.s.Trip() != c.trip {
			t.Error(i, c.s.Right(), c.s.Trip())
		}
	}
}

// interval is a stamp's interval by exact numbers.
func interval(s Sample, stamp, rho int64) (gap.Gap, api.Errno) {
	low, _ := drift.Low(stamp-s.Got, rho)
	high, _ := drift.High(stamp-s.Sent, rho)
	lo := new(big.Int).Add(big.NewInt(s.Asked), big.NewInt(low))
	hi := new(big.Int).Add(big.NewInt(s.Came), big.NewInt(high))
	if lo.Sign() < 0 {
		lo.SetInt64(0)
	}
	if hi.Cmp(big.NewInt(top)) > 0 {
		hi.SetInt64(top)
	}
	if lo.Cmp(hi) > 0 {
		return gap.Gap{}, api.ErrEmpty
	}
	return gap.Gap{Lo: lo.Int64(), Hi: hi.Int64()}, api.OK
}

func TestP18_1At(t *testing.T) {
	times := []int64{0, 1, 2, 7, 9, 100, 110, 1000000, 1 << 61, top - 1, top}
	for _, asked := range times {
		for _, came := range times {
			for _, got := range times {
				for _, sent := range times {
					s := Sample{asked, got, sent, came}
					for _, stamp := range times {
						for _, rho := range []int64{0, 100000} {
							want, err := gap.Gap{}, api.ErrForm
							if asked <= came && got <= sent {
								want, err = interval(s, stamp, rho)
							}
							if g, e := s.At(stamp, rho); g != want || e != err {
								t.Fatal(s, stamp, rho, g, e, want, err)
							}
						}
					}
				}
			}
		}
	}
	if g, e := (Sample{100, 7, 9, 110}).At(9, 0); g != (gap.Gap{Lo: 101, Hi: 111}) || e != api.OK {
		t.Error(g, e)
	}
}

func TestP18_1AtWrong(t *testing.T) {
	good := Sample{100, 7, 9, 110}
	for i, c := range []struct {
		s          Sample
		stamp, rho int64
		err        api.Errno
	}{
		{Sample{5, 0, 0, 4}, -1, -1, api.ErrForm}, {good, -1, 0, api.ErrRange}, {good, top + 1, 0, api.ErrRange}, {good, 0, -1, api.ErrRange}, {good, 0, 100001, api.ErrRange},
		{good, math.MinInt64, math.MaxInt64, api.ErrRange}, {Sample{0, 0, 50, 10}, 50, 0, api.ErrEmpty}, {Sample{5, 100, 100, 5}, 90, 0, api.ErrEmpty}, {Sample{top, 0, 0, top}, 5, 0, api.ErrEmpty},
	} {
		if g, e := c.s.At(c.stamp, c.rho); g != (gap.Gap{}) || e != c.err {
			t.Error(i, g, e)
		}
	}
}

func TestP18_2New(t *testing.T) {
	for _, c := range []struct {
		rho   int64
		trust int
		err   api.Errno
	}{
		{0, 0, 0}, {100000, 100, 0}, {-1, 0, api.ErrRange}, {100001, 0, api.ErrRange}, {0, -1, api.ErrRange}, {0, 101, api.ErrRange}, {math.MinInt64, math.MaxInt, api.ErrRange},
	} {
		k, e := New(c.rho, c.trust)
		if e != c.err || (k == nil) != (e != api.OK) {
			t.Error(c, e)
		}
		if k != nil && (k.Held() || k.Streak() != 0 || len(k.Samples()) != 0) {
			t.Error(c, "not new")
		}
	}
}

// at is a sample of a clock that is so much ahead, at a time.
func at(time, ahead int64) Sample { return Sample{time, time + ahead, time + ahead, time + 2} }

func TestP18_2Add(t *testing.T) {
	c := start(t, 0, 2)
	if e := c.Add(Sample{5, 0, 0, 4}); e != api.ErrForm || len(c.Samples()) != 0 {
		t.Error(e)
	}
	for i := range int64(10) {
		if e := c.Add(at(10*i, 1000)); e != api.OK || c.Held() || c.Streak() != int(i)+1 {
			t.Error(i, e, c.Streak())
		}
	}
	if list := c.Samples(); len(list) != 8 || list[0] != at(20, 1000) || list[7] != at(90, 1000) {
		t.Error(list)
	}
	// A clock that jumps is held until two samples in a row agree.
	for i, k := range []struct {
		s      Sample
		err    api.Errno
		held   bool
		streak int
		list   []Sample
	}{
		{at(100, 2000), api.ErrState, true, 0, []Sample{at(100, 2000)}},
		{at(110, 2000), api.OK, true, 1, []Sample{at(100, 2000), at(110, 2000)}},
		{at(120, 3000), api.ErrState, true, 0, []Sample{at(120, 3000)}},
		{at(130, 3000), api.OK, true, 1, []Sample{at(120, 3000), at(130, 3000)}},
		{at(140, 3000), api.OK, false, 2, []Sample{at(120, 3000), at(130, 3000), at(140, 3000)}},
		// The sample's own interval of its Sent is empty: it is dropped too.
		{Sample{150, 10, 900, 160}, api.ErrState, true, 0, nil},
		{Sample{150, 10, 900, 160}, api.ErrState, true, 0, nil},
		{at(170, 0), api.OK, true, 1, []Sample{at(170, 0)}},
	} {
		if e := c.Add(k.s); e != k.err || c.Held() != k.held || c.Streak() != k.streak || !slices.Equal(c.Samples(), k.list) {
			t.Error(i, e, c.Held(), c.Streak(), c.Samples())
		}
	}
}

func TestP18_2AddDropsTheOldest(t *testing.T) {
	// The ninth sample is held against eight only: the first one, which would disagree, is gone.
	c := start(t, 0, 0)
	list := []Sample{at(0, 5)}
	for i := range int64(7) {
		list = append(list, at(10+i, 0))
	}
	c.Set(false, 3, list...)
	if e := c.Add(at(30, 0)); e != api.OK || c.Held() || len(c.Samples()) != 8 || c.Samples()[0] != list[1] {
		t.Error(e, c.Samples())
	}
	c.Set(false, math.MaxInt)
	if e := c.Add(at(1, 0)); e != api.OK || c.Streak() != math.MaxInt {
		t.Error(e, c.Streak())
	}
	c = start(t, 0, 0)
	c.Add(at(0, 5))
	c.Add(at(10, 50))
	if e := c.Add(at(20, 50)); e != api.OK || c.Held() || c.Streak() != 1 {
		t.Error("trust 0", e)
	}
}

func TestP18_2AtPoint(t *testing.T) {
	c := start(t, 0, 0)
	for _, stamp := range []int64{5, -1, top + 1} {
		if g, e := c.At(stamp); g != (gap.Gap{}) || e != api.ErrNone {
			t.Error(g, e)
		}
		if v, e := c.Point(stamp); v != 0 || e != api.ErrNone {
			t.Error(v, e)
		}
	}
	c.Set(false, 0, Sample{100, 1100, 1100, 110}, Sample{200, 1196, 1196, 201})
	for i, k := range []struct {
		stamp int64
		want  gap.Gap
		err   api.Errno
	}{
		{-1, gap.Gap{}, api.ErrRange}, {top + 1, gap.Gap{}, api.ErrRange}, {math.MinInt64, gap.Gap{}, api.ErrRange},
		{1150, gap.Gap{Lo: 153, Hi: 156}, 0}, {1100, gap.Gap{Lo: 103, Hi: 106}, 0}, {0, gap.Gap{}, api.ErrEmpty},
	} {
		g, e := c.At(k.stamp)
		v, f := c.Point(k.stamp)
		if g != k.want || e != k.err || v != k.want.Mid() || f != k.err {
			t.Error(i, g, e, v, f)
		}
	}
	c.Set(false, 0, at(0, 0), at(0, 50))
	if g, e := c.At(100); g != (gap.Gap{}) || e != api.ErrEmpty {
		t.Error("they don't meet", g, e)
	}
}

func TestP18_3Set(t *testing.T) {
	c := start(t, 0, 5)
	c.Add(at(0, 5))
	before := c.Clone()
	many := make([]Sample, 9)
	for i, k := range []struct {
		streak int
		list   []Sample
	}{{0, many}, {-1, nil}, {math.MinInt, nil}, {0, []Sample{at(0, 1), {5, 0, 0, 4}}}} {
		if e := c.Set(true, k.streak, k.list...); e != api.ErrForm || !reflect.DeepEqual(before, c) {
			t.Error(i, e)
		}
	}
	list := many[:8]
	if e := c.Set(true, 7, list...); e != api.OK || !c.Held() || c.Streak() != 7 || len(c.Samples()) != 8 {
		t.Error(e)
	}
	list[0] = at(5, 5)
	c.Samples()[1] = at(6, 6)
	if !slices.Equal(c.Samples(), make([]Sample, 8)) {
		t.Error("shared")
	}
	k := c.Clone()
	k.Add(at(100, 9))
	k.Add(at(100, 900))
	if !slices.Equal(c.Samples(), make([]Sample, 8)) || !c.Held() || c.Streak() != 7 || len(before.Samples()) != 1 {
		t.Error("clone")
	}
	if e := c.Set(false, 0); e != api.OK || c.Held() || len(c.Samples()) != 0 {
		t.Error(e)
	}
}

// honest is readings of a clock that is honest for rho, at rising true times.
func honest(r *rand.Rand, rho int64, n int) []drift.Point {
	list := []drift.Point{{True: r.Int63n(1000), Clock: r.Int63n(100000)}}
	bias := r.Int63n(2*rho+1) - rho
	for len(list) < n {
		p := list[len(list)-1]
		d := r.Int63n([]int64{2, 20, 5000000}[r.Intn(3)])
		q := drift.Point{True: p.True + d, Clock: p.Clock + d + d*bias/1000000 + r.Int63n(3) - 1}
		if q.Clock >= p.Clock && drift.Honest(rho, append(slices.Clone(list), q)...) {
			list = append(list, q)
		}
	}
	return list
}

func TestP18_4Honest(t *testing.T) {
	r := rand.New(rand.NewSource(1))
	for i := range 1500 {
		rho := []int64{0, 10, 10000, 100000}[i%4]
		points := honest(r, rho, 26)
		c := start(t, rho, 3)
		for j := 0; j+3 < len(points); j += 2 {
			got, sent := points[j+1], points[j+2]
			s := Sample{points[j].True + r.Int63n(got.True-points[j].True+1), got.Clock, sent.Clock, points[j+3].True}
			if e := c.Add(s); e != api.OK || c.Held() {
				t.Fatal(rho, points, e)
			}
			for _, p := range points {
				g, e := s.At(p.Clock, rho)
				if e != api.OK || !g.Has(p.True) {
					t.Fatal(rho, s, p, g, e)
				}
				if g, e = c.At(p.Clock); e != api.OK || !g.Has(p.True) {
					t.Fatal(rho, s, p, g, e)
				}
				narrow(t, c, p.Clock, rho, g)
			}
		}
	}
}

// narrow checks the width of a clock's interval.
func narrow(t *testing.T, c *Clock, stamp, rho int64, g gap.Gap) {
	for _, s := range c.Samples() {
		far := max(stamp-s.Got, s.Got-stamp, stamp-s.Sent, s.Sent-stamp)
		slack, _ := drift.Slack(far, rho)
		if int64(g.Width()) > s.Trip()+2*slack+4 {
			t.Fatal(s, stamp, g, slack)
		}
	}
}
