package gap

import (
	"math"
	"math/big"
	"slices"
	"testing"

	"noonmark/api"
)

const (
	least = math.MinInt64
	most  = math.MaxInt64
)

var ends = []int64{least, least + 1, -1 << 62, -10, -3, -2, -1, 0, 1, 2, 3, 10, 1 << 62, most - 1, most}

// gaps are all of these ends, invalid ones too.
func gaps() []Gap {
	var list []Gap
	for _, lo := range ends {
		for _, hi := range ends {
			list = append(list, Gap{lo, hi})
		}
	}
	return list
}

func TestP3_1One(t *testing.T) {
	for _, g := range gaps() {
		right := g.Lo <= g.Hi
		if g.Right() != right {
			t.Fatal("Right", g)
		}
		want := Gap{}
		if right {
			want = g
		}
		if n, ok := New(g.Lo, g.Hi); n != want || ok != right {
			t.Fatal("New", g, n, ok)
		}
		for _, x := range ends {
			if g.Has(x) != (g.Lo <= x && x <= g.Hi) {
				t.Fatal("Has", g, x)
			}
		}
		width, mid := uint64(0), int64(0)
		if right {
			lo, hi := big.NewInt(g.Lo), big.NewInt(g.Hi)
			width = new(big.Int).Sub(hi, lo).Uint64()
			mid = new(big.Int).Div(new(big.Int).Add(lo, hi), big.NewInt(2)).Int64()
		}
		if g.Width() != width || g.Mid() != mid {
			t.Fatal(g, g.Width(), g.Mid())
		}
	}
	if (Gap{-3, 0}).Mid() != -2 {
		t.Error("Mid")
	}
}

func TestP3_1Within(t *testing.T) {
	for _, g := range gaps() {
		for _, o := range gaps() {
			want := g.Lo <= g.Hi && o.Lo <= o.Hi && o.Lo <= g.Lo && g.Hi <= o.Hi
			if g.Within(o) != want {
				t.Fatal(g, o)
			}
		}
	}
}

// grown is what Grow must return.
func grown(g Gap, low, high int64) (Gap, api.Errno) {
	if g.Lo > g.Hi {
		return Gap{}, api.ErrForm
	}
	lo := new(big.Int).Sub(big.NewInt(g.Lo), big.NewInt(low))
	hi := new(big.Int).Add(big.NewInt(g.Hi), big.NewInt(high))
	if !lo.IsInt64() || !hi.IsInt64() {
		return Gap{}, api.ErrOver
	}
	if lo.Cmp(hi) > 0 {
		return Gap{}, api.ErrEmpty
	}
	return Gap{lo.Int64(), hi.Int64()}, api.OK
}

func TestP3_2ShiftGrow(t *testing.T) {
	for _, g := range gaps() {
		for _, a := range ends {
			for _, b := range ends {
				want, err := grown(g, a, b)
				if v, e := g.Grow(a, b); v != want || e != err {
					t.Fatal("Grow", g, a, b, v, e)
				}
			}
			want, err := Gap{g.Lo + a, g.Hi + a}, api.OK
			lo := new(big.Int).Add(big.NewInt(g.Lo), big.NewInt(a))
			hi := new(big.Int).Add(big.NewInt(g.Hi), big.NewInt(a))
			if g.Lo > g.Hi {
				want, err = Gap{}, api.ErrForm
			} else if !lo.IsInt64() || !hi.IsInt64() {
				want, err = Gap{}, api.ErrOver
			}
			if v, e := g.Shift(a); v != want || e != err {
				t.Fatal("Shift", g, a, v, e)
			}
		}
	}
	if v, e := (Gap{0, 10}).Grow(-8, -8); v != (Gap{}) || e != api.ErrEmpty {
		t.Error(v, e)
	}
}

func TestP3_2Pairs(t *testing.T) {
	for _, g := range gaps() {
		for _, o := range gaps() {
			meet, one := Gap{max(g.Lo, o.Lo), min(g.Hi, o.Hi)}, api.OK
			hull, two := Gap{min(g.Lo, o.Lo), max(g.Hi, o.Hi)}, api.OK
			if g.Lo > g.Hi || o.Lo > o.Hi {
				meet, one, hull, two = Gap{}, api.ErrForm, Gap{}, api.ErrForm
			} else if meet.Lo > meet.Hi {
				meet, one = Gap{}, api.ErrEmpty
			}
			if v, e := Meet(g, o); v != meet || e != one {
				t.Fatal("Meet", g, o, v, e)
			}
			if v, e := Hull(g, o); v != hull || e != two {
				t.Fatal("Hull", g, o, v, e)
			}
		}
	}
}

func TestP3_2Lists(t *testing.T) {
	bad := Gap{1, 0}
	for i, c := range []struct {
		list []Gap
		meet Gap
		one  api.Errno
		hull Gap
		two  api.Errno
	}{
		{nil, Gap{least, most}, 0, Gap{}, api.ErrEmpty},
		{[]Gap{{1, 5}, {4, 9}}, Gap{4, 5}, 0, Gap{1, 9}, 0},
		{[]Gap{{1, 5}, {4, 9}, {5, 5}}, Gap{5, 5}, 0, Gap{1, 9}, 0},
		{[]Gap{{1, 2}, {3, 4}, {-9, 9}}, Gap{}, api.ErrEmpty, Gap{-9, 9}, 0},
		{[]Gap{{1, 2}, {3, 4}, bad}, Gap{}, api.ErrForm, Gap{}, api.ErrForm},
		{[]Gap{bad}, Gap{}, api.ErrForm, Gap{}, api.ErrForm},
		{[]Gap{{most, least}, {1, 1}}, Gap{}, api.ErrForm, Gap{}, api.ErrForm},
		{[]Gap{{7, 7}}, Gap{7, 7}, 0, Gap{7, 7}, 0},
	} {
		kept := slices.Clone(c.list)
		if v, e := Meet(c.list...); v != c.meet || e != c.one {
			t.Error(i, "Meet", v, e)
		}
		if v, e := Hull(c.list...); v != c.hull || e != c.two {
			t.Error(i, "Hull", v, e)
		}
		if !slices.Equal(kept, c.list) {
			t.Error(i, "changed")
		}
	}
}
