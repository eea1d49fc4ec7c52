package drift

import (
	"math"
	"math/big"
	"math/rand"
	"slices"
	"testing"

	"noonmark/api"
)

const far = int64(1) << 62

var rates = []int64{0, 1, 2, 1000, 9999, 10000, 50000, 99999, 100000}

var wrongRates = []int64{-1, 100001, math.MinInt64, math.MaxInt64}

func big64(v int64) *big.Int { return big.NewInt(v) }

// quotient is a * Million / c, rounded down, or up.
func quotient(a, b, c int64, up bool) int64 {
	q, m := new(big.Int).DivMod(new(big.Int).Mul(big64(a), big64(b)), big64(c), new(big.Int))
	if up && m.Sign() != 0 {
		q.Add(q, big64(1))
	}
	return q.Int64()
}

func lowest(x, rho int64) int64 {
	if x > 0 {
		return max(1, quotient(x-1, 1000000, 1000000+rho, true))
	}
	return -quotient(1-x, 1000000, 1000000-rho, false)
}

func distances() []int64 {
	list := []int64{0, 1, -1, 2, -2, 100, 101, -100, 1000000, -1000000, 1010001, far, far - 1, -far, -far + 1}
	r := rand.New(rand.NewSource(1))
	for range 200 {
		list = append(list, r.Int63()>>uint(1+r.Intn(60)), -(r.Int63() >> uint(1+r.Intn(60))))
	}
	return list
}

func TestP4_1LowHigh(t *testing.T) {
	for _, x := range distances() {
		for _, rho := range rates {
			if v, e := Low(x, rho); v != lowest(x, rho) || e != api.OK {
				t.Fatal("Low", x, rho, v, e)
			}
			if v, e := High(x, rho); v != -lowest(-x, rho) || e != api.OK {
				t.Fatal("High", x, rho, v, e)
			}
		}
	}
	for i, c := range [][3]int64{{101, 10000, 100}, {1, 0, 1}, {2, 0, 1}, {0, 0, -1}, {-1, 100000, -2}} {
		if v, e := Low(c[0], c[1]); v != c[2] || e != api.OK {
			t.Error(i, v, e)
		}
	}
	if v, e := High(0, 10000); v != 1 || e != api.OK {
		t.Error(v, e)
	}
}

func TestP4_1Slack(t *testing.T) {
	for _, a := range distances() {
		for _, rho := range rates {
			want, err := int64(0), api.ErrRange
			if a >= 0 {
				want, err = quotient(a, rho, 1000000-rho, true), api.OK
			}
			if v, e := Slack(a, rho); v != want || e != err {
				t.Fatal(a, rho, v, e)
			}
		}
	}
}

func TestP4_1OutOfRange(t *testing.T) {
	for _, call := range []func(x, rho int64) (int64, api.Errno){Low, High, Slack} {
		for _, x := range []int64{far + 1, -far - 1, math.MinInt64, math.MaxInt64} {
			if v, e := call(x, 5); v != 0 || e != api.ErrRange {
				t.Error(x, v, e)
			}
		}
		for _, rho := range wrongRates {
			if v, e := call(5, rho); v != 0 || e != api.ErrRange {
				t.Error(rho, v, e)
			}
		}
	}
}

// pairwise is Honest, pair by pair.
func pairwise(rho int64, list []Point) bool {
	if rho < 0 || rho > 100000 {
		return false
	}
	for _, p := range list {
		if p.True < 0 || p.Clock < 0 || p.True > api.MaxTime || p.Clock > api.MaxTime {
			return false
		}
	}
	for _, p := range list {
		for _, q := range list {
			if p.True > q.True {
				continue
			}
			c, d := big64(q.Clock-p.Clock), big64(q.True-p.True)
			diff := new(big.Int).Abs(new(big.Int).Sub(c, d))
			diff.Mul(diff, big64(1000000))
			limit := new(big.Int).Add(new(big.Int).Mul(big64(rho), d), big64(1000000))
			if c.Sign() < 0 || diff.Cmp(limit) > 0 {
				return false
			}
		}
	}
	return true
}

func smallest(list []Point) (int64, bool) {
	lo, hi := int64(0), int64(100001)
	for lo < hi {
		if m := (lo + hi) / 2; pairwise(m, list) {
			hi = m
		} else {
			lo = m + 1
		}
	}
	if lo > 100000 {
		return 0, false
	}
	return lo, true
}

func check(t *testing.T, list []Point) {
	t.Helper()
	kept := slices.Clone(list)
	for _, rho := range append(rates, wrongRates...) {
		if Honest(rho, list...) != pairwise(rho, list) {
			t.Fatal("Honest", rho, list)
		}
	}
	rho, ok := Least(list...)
	if want, there := smallest(list); rho != want || ok != there {
		t.Fatal("Least", list, rho, ok, want, there)
	}
	if !slices.Equal(kept, list) {
		t.Fatal("changed", kept)
	}
}

// drifting are readings of a clock that drifts, at most near the rate.
func drifting(r *rand.Rand, n int, rate int64, most int) []Point {
	list := []Point{{r.Int63n(50), r.Int63n(50)}}
	for len(list) < n {
		p := list[len(list)-1]
		d := r.Int63n(int64(most))
		c := d + r.Int63n(2*(rate*d/1000000)+3) - rate*d/1000000 - 1
		list = append(list, Point{p.True + d, p.Clock + max(0, c)})
	}
	r.Shuffle(n, func(i, j int) { list[i], list[j] = list[j], list[i] })
	return list
}

func TestP4_2Random(t *testing.T) {
	r := rand.New(rand.NewSource(2))
	for i := range 600 {
		check(t, drifting(r, 1+r.Intn(6), rates[i%len(rates)], []int{3, 100, 10000000}[i%3]))
	}
}

func TestP4_2Edges(t *testing.T) {
	const top = api.MaxTime
	for _, list := range [][]Point{
		nil,
		{{0, 0}}, {{top, top}}, {{-1, 0}}, {{0, -1}}, {{top + 1, 0}}, {{0, top + 1}}, {{math.MinInt64, math.MaxInt64}},
		{{5, 7}, {5, 7}}, {{5, 7}, {5, 8}}, {{5, 8}, {5, 7}},
		{{5, 7}, {6, 6}}, {{5, 7}, {6, 7}}, {{5, 7}, {6, 9}}, {{5, 7}, {6, 10}}, {{5, 7}, {7, 7}},
		{{0, 0}, {top, top}}, {{0, 0}, {top, 0}}, {{0, top}, {top, top}}, {{0, top}, {1, 0}},
		{{0, 0}, {1000000, 1010001}}, {{0, 0}, {1000000, 1010002}}, {{0, 0}, {1000000, 989999}}, {{0, 0}, {1000000, 989998}},
		{{0, 0}, {1000000, 1100001}}, {{0, 0}, {1000000, 1100002}}, {{0, 0}, {1000000, 899999}}, {{0, 0}, {1000000, 899998}},
		{{0, 1}, {10, 11}, {10, 12}}, {{9, 9}, {0, 0}, {4, 5}},
	} {
		check(t, list)
	}
	for _, rho := range rates {
		if !Honest(rho) {
			t.Error(rho)
		}
	}
	if rho, ok := Least(); rho != 0 || !ok {
		t.Error(rho, ok)
	}
}

func TestP4_2Many(t *testing.T) {
	list := make([]Point, 200000)
	for i := range list {
		list[i] = Point{int64(i) * 10, int64(i) * 10}
	}
	if !Honest(0, list...) {
		t.Error("honest")
	}
	list[150000].Clock += 3
	if rho, ok := Least(list...); ok || rho != 0 {
		t.Error(rho, ok)
	}
}

func TestP4_3Bounds(t *testing.T) {
	r := rand.New(rand.NewSource(3))
	for i := range 4000 {
		rho := rates[i%len(rates)]
		list := drifting(r, 2, rho, []int{3, 100, 10000000}[i%3])
		if !Honest(rho, list...) {
			continue
		}
		for _, p := range list {
			for _, q := range list {
				low, _ := Low(q.Clock-p.Clock, rho)
				high, _ := High(q.Clock-p.Clock, rho)
				if d := q.True - p.True; d < low || d > high {
					t.Fatal(rho, p, q, low, high)
				}
			}
		}
	}
}
