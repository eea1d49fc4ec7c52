package probe

import (
	"math"
	"slices"
	"testing"

	"noonmark/api"
)

const (
	top  = api.MaxTime
	edge = 1 << 40
)

func start(t *testing.T, most int) *Probes {
	t.Helper()
	p, e := New(4, most)
	if e != api.OK {
		t.Fatal(e)
	}
	return p
}

func counts(p *Probes) []int64 {
	var list []int64
	for _, n := range p.Out() {
		list = append(list, n.Count)
	}
	return list
}

func TestP16_1New(t *testing.T) {
	for _, c := range []struct {
		boot int64
		most int
		err  api.Errno
	}{
		{1, 1, 0}, {edge, 1024, 0}, {0, 1, api.ErrRange}, {-1, 1, api.ErrRange}, {edge + 1, 1, api.ErrRange}, {1, 0, api.ErrRange}, {1, 1025, api.ErrRange}, {math.MaxInt64, math.MinInt, api.ErrRange},
	} {
		p, e := New(c.boot, c.most)
		if e != c.err || (p == nil) != (e != api.OK) {
			t.Error(c, p, e)
		}
		if p != nil && (p.Boot() != c.boot || len(p.Out()) != 0) {
			t.Error(c, p.Boot())
		}
	}
}

func TestP16_1Send(t *testing.T) {
	p := start(t, 2)
	for _, c := range [][3]int64{{-1, 1, 1}, {64, 1, 1}, {3, 0, 1}, {3, edge + 1, 1}, {3, 1, -1}, {3, 1, top + 1}, {math.MinInt64, math.MaxInt64, 5}} {
		if n, e := p.Send(c[0], c[1], c[2]); n != (Nonce{}) || e != api.ErrRange || len(p.Out()) != 0 || !p.Due(c[0], 1, 5) {
			t.Error(c, n, e)
		}
	}
	for i, c := range [][3]int64{{0, 1, 0}, {63, edge, top}, {3, 1, 5}, {3, 1, 5}} {
		if n, e := p.Send(c[0], c[1], c[2]); n != (Nonce{4, int64(i)}) || e != api.OK {
			t.Error(i, n, e)
		}
	}
	if !slices.Equal(p.Out(), []Nonce{{4, 2}, {4, 3}}) {
		t.Error(p.Out())
	}
	if _, e := p.Answer(63, edge, Nonce{4, 1}); e != api.ErrNone {
		t.Error("dropped", e)
	}
	p.Answer(3, 1, Nonce{4, 3})
	p.Forget(3)
	if n, _ := p.Send(1, 1, 1); n.Count != 4 {
		t.Error("the count goes on", n)
	}
}

func TestP16_2Answer(t *testing.T) {
	p := start(t, 5)
	p.Send(3, 1, 10)
	p.Send(3, 1, 20)
	p.Send(5, 7, 30)
	for i, c := range []struct {
		agent, epoch int64
		n            Nonce
		want         int64
		err          api.Errno
		left         []int64
	}{
		{3, 1, Nonce{5, 0}, -1, api.ErrOld, []int64{0, 1, 2}}, {3, 1, Nonce{3, 9}, -1, api.ErrOld, []int64{0, 1, 2}},
		{3, 1, Nonce{4, 3}, -1, api.ErrNone, []int64{0, 1, 2}}, {9, 9, Nonce{4, -1}, -1, api.ErrNone, []int64{0, 1, 2}},
		{5, 1, Nonce{4, 0}, -1, api.ErrForm, []int64{0, 1, 2}}, {3, 7, Nonce{4, 0}, -1, api.ErrForm, []int64{0, 1, 2}}, {3, 1, Nonce{4, 2}, -1, api.ErrForm, []int64{0, 1, 2}},
		{3, 1, Nonce{4, 1}, 20, api.OK, []int64{0, 2}}, {3, 1, Nonce{4, 1}, -1, api.ErrNone, []int64{0, 2}},
		{3, 1, Nonce{4, 0}, 10, api.OK, []int64{2}}, {5, 7, Nonce{4, 2}, 30, api.OK, nil}, {5, 7, Nonce{4, 2}, -1, api.ErrNone, nil},
	} {
		if at, e := p.Answer(c.agent, c.epoch, c.n); at != c.want || e != c.err || !slices.Equal(counts(p), c.left) {
			t.Error(i, at, e, counts(p))
		}
	}
}

func TestP16_3Due(t *testing.T) {
	p := start(t, 1)
	p.Send(3, 1, 100)
	p.Send(4, 1, 100)
	p.Answer(4, 1, Nonce{4, 1})
	for i, c := range []struct {
		agent, now, period int64
		want               bool
	}{
		{3, 109, 10, false}, {3, 110, 10, true}, {4, 109, 10, false}, {4, 110, 10, true}, {3, 100, 0, true}, {3, 99, 0, false}, {3, 50, 10, false},
		{5, 0, top, true}, {5, top, 0, true}, {5, -1, 10, false}, {5, top + 1, 10, false}, {5, 1, -1, false}, {5, 1, top + 1, false}, {3, -1, 0, false}, {3, 200, -1, false},
		{3, top, top, false}, {3, top, top - 100, true}, {3, math.MinInt64, math.MaxInt64, false},
	} {
		if p.Due(c.agent, c.now, c.period) != c.want {
			t.Error(i, c)
		}
	}
	p.Send(3, 1, 50)
	if p.Due(3, 59, 10) || !p.Due(3, 60, 10) {
		t.Error("the last one counts")
	}
}

func TestP16_3Forget(t *testing.T) {
	p := start(t, 10)
	for i := range int64(6) {
		p.Send(i%3, 1, i)
	}
	if n := p.Forget(1); n != 2 || !slices.Equal(counts(p), []int64{0, 2, 3, 5}) || !p.Due(1, 5, 100) || p.Due(0, 5, 100) {
		t.Error(n, counts(p))
	}
	for _, agent := range []int64{1, 9, -1, math.MaxInt64} {
		if n := p.Forget(agent); n != 0 {
			t.Error(agent, n)
		}
	}
	before := p.Out()
	before[0].Count = 99
	if !slices.Equal(counts(p), []int64{0, 2, 3, 5}) || p.Boot() != 4 {
		t.Error("shared")
	}
	p.Forget(0)
	p.Forget(2)
	if len(p.Out()) != 0 || !p.Due(0, 5, 100) || !p.Due(2, 5, 100) {
		t.Error(p.Out())
	}
}
