package grid

import (
	"math"
	"math/big"
	"testing"

	"noonmark/api"
	"noonmark/gap"
)

const (
	least = math.MinInt64
	most  = math.MaxInt64
	top   = api.MaxTime
	edge  = 1 << 40
)

var times = []int64{least, least + 1, -1 << 41, -21, -20, -11, -10, -9, -1, 0, 1, 9, 10, 11, 18, 25, 31, 1 << 41, top, most - 1, most}

var widths = []int64{1, 2, 7, 10, edge - 1, edge}

func floor(a, b int64) int64 {
	return new(big.Int).Div(big.NewInt(a), big.NewInt(b)).Int64()
}

func gaps() []gap.Gap {
	var list []gap.Gap
	for _, lo := range times {
		for _, hi := range times {
			list = append(list, gap.Gap{Lo: lo, Hi: hi})
		}
	}
	return list
}

func TestP19_1New(t *testing.T) {
	for _, c := range []Grid{{1, PFirst, 0}, {edge, PCertain, top}, {10, PLast, 5}, {10, PMiddle, 5}} {
		if g, e := New(c.Width, c.Policy, c.Most); g != c || e != api.OK {
			t.Error(c, g, e)
		}
	}
	for _, c := range []Grid{{}, {0, 0, 0}, {-1, 0, 0}, {edge + 1, 0, 0}, {1, -1, 0}, {1, 4, 0}, {1, 0, -1}, {1, 0, top + 1}, {least, math.MinInt, least}, {most, math.MaxInt, most}} {
		if g, e := New(c.Width, c.Policy, c.Most); g != (Grid{}) || e != api.ErrRange {
			t.Error(c, g, e)
		}
		x := gap.Gap{Lo: 20, Hi: 21}
		if c.Window(20) != 0 || c.Certain(x) {
			t.Error(c, "Window")
		}
		if g, e := c.Span(1); g != (gap.Gap{}) || e != api.ErrState {
			t.Error(c, g, e)
		}
		for _, x := range []gap.Gap{x, {Lo: 2, Hi: 1}} {
			if a, b, e := c.Meets(x); a != 0 || b != 0 || e != api.ErrState {
				t.Error(c, a, b, e)
			}
			if w, e := c.Pick(x); w != 0 || e != api.ErrState {
				t.Error(c, w, e)
			}
		}
	}
}

func TestP19_2WindowSpan(t *testing.T) {
	for _, width := range widths {
		g := Grid{width, PFirst, 0}
		for _, x := range times {
			if w := g.Window(x); w != floor(x, width) {
				t.Error(width, x, w)
			}
			lo := new(big.Int).Mul(big.NewInt(x), big.NewInt(width))
			hi := new(big.Int).Add(lo, big.NewInt(width-1))
			want, err := gap.Gap{Lo: lo.Int64(), Hi: hi.Int64()}, api.OK
			if !lo.IsInt64() || !hi.IsInt64() {
				want, err = gap.Gap{}, api.ErrOver
			}
			if s, e := g.Span(x); s != want || e != err {
				t.Error(width, x, s, e)
			}
		}
	}
	// The last window of all times is cut off for one width, and the first one for another.
	for _, c := range []struct{ width, window int64 }{{10, floor(most, 10)}, {10, floor(least, 10)}} {
		if s, e := (Grid{Width: c.width}).Span(c.window); s != (gap.Gap{}) || e != api.ErrOver {
			t.Error(c, s, e)
		}
	}
	g := Grid{Width: 10}
	if s, e := g.Span(2); s != (gap.Gap{Lo: 20, Hi: 29}) || e != api.OK || g.Window(-1) != -1 {
		t.Error(s, e)
	}
}

func TestP19_2MeetsCertain(t *testing.T) {
	for _, width := range widths {
		g := Grid{width, PFirst, 0}
		for _, x := range gaps() {
			first, last, err := floor(x.Lo, width), floor(x.Hi, width), api.OK
			if x.Lo > x.Hi {
				first, last, err = 0, 0, api.ErrForm
			}
			if a, b, e := g.Meets(x); a != first || b != last || e != err {
				t.Error(width, x, a, b, e)
			}
			if g.Certain(x) != (err == api.OK && first == last) {
				t.Error(width, x)
			}
		}
	}
}

// picked is what Pick must return.
func picked(g Grid, x gap.Gap) (int64, api.Errno) {
	if x.Lo > x.Hi {
		return 0, api.ErrForm
	}
	width := new(big.Int).Sub(big.NewInt(x.Hi), big.NewInt(x.Lo))
	if width.Cmp(big.NewInt(g.Most)) > 0 {
		return 0, api.ErrLong
	}
	first, last := floor(x.Lo, g.Width), floor(x.Hi, g.Width)
	switch g.Policy {
	case 0:
		return first, 0
	case 1:
		return last, 0
	case 2:
		return floor(x.Mid(), g.Width), 0
	}
	if first != last {
		return 0, api.ErrLong
	}
	return first, 0
}

func TestP19_2Pick(t *testing.T) {
	for _, width := range widths {
		for policy := range 4 {
			for _, wide := range []int64{0, 1, 13, top} {
				g := Grid{width, policy, wide}
				for _, x := range gaps() {
					want, err := picked(g, x)
					if w, e := g.Pick(x); w != want || e != err {
						t.Error(g, x, w, e)
					}
				}
			}
		}
	}
	for policy, want := range []int64{1, 3, 2, 0} {
		w, e := (Grid{10, policy, top}).Pick(gap.Gap{Lo: 18, Hi: 31})
		if w != want || (e == api.ErrLong) != (policy == PCertain) {
			t.Error(policy, w, e)
		}
	}
	if w, e := (Grid{10, PCertain, 9}).Pick(gap.Gap{Lo: 20, Hi: 29}); w != 2 || e != api.OK {
		t.Error(w, e)
	}
}
