package cell

import (
	"bytes"
	"math"
	"math/rand"
	"slices"
	"testing"

	"noonmark/api"
	"noonmark/code"
	"noonmark/hist"
	"noonmark/wide"
)

const (
	least = math.MinInt64
	most  = math.MaxInt64
)

// rich is a valid cell with a sum that no values make, or nearly.
func rich(count int64, sum wide.Int) Cell {
	c := Fold(5)
	c.Count, c.Sum, c.Hist[4] = count, sum, count
	return c
}

func values(r *rand.Rand) []int64 {
	var list []int64
	for range r.Intn(6) {
		list = append(list, int64(r.Uint64())>>uint(r.Intn(64)))
	}
	return list
}

func TestP21_1Fold(t *testing.T) {
	if Fold() != (Cell{}) || !Fold().Right() {
		t.Error("empty")
	}
	if c := Fold(3, -1); c != (Cell{Count: 2, Sum: wide.Of(2), Min: -1, Max: 3, Hist: hist.Of(3, -1)}) {
		t.Error(c)
	}
	if c := Fold(least, least, most); c.Count != 3 || c.Sum != wide.Sum(least, least, most) || c.Min != least || c.Max != most || !c.Right() {
		t.Error(c)
	}
	r := rand.New(rand.NewSource(1))
	for range 300 {
		list := values(r)
		c := Fold(list...)
		if !c.Right() || c.Count != int64(len(list)) || c.Sum != wide.Sum(list...) || c.Hist != hist.Of(list...) || c.Certain != 0 || c.Possible != 0 {
			t.Fatal(list, c)
		}
		if len(list) > 0 && (c.Min != slices.Min(list) || c.Max != slices.Max(list)) {
			t.Fatal(list, c)
		}
	}
}

// wrong is cells that are not valid, each by one thing.
func wrong() []Cell {
	var list []Cell
	for _, change := range []func(c *Cell){
		func(c *Cell) { c.Count++ }, func(c *Cell) { c.Count-- }, func(c *Cell) { c.Count = -c.Count }, func(c *Cell) { c.Certain = -1 }, func(c *Cell) { c.Possible = least },
		func(c *Cell) { c.Min, c.Max = c.Max, c.Min }, func(c *Cell) { c.Min = 0 }, func(c *Cell) { c.Max = 1000 }, func(c *Cell) { c.Min = 8 },
		func(c *Cell) { c.Hist[0]-- }, func(c *Cell) { c.Hist[64]++ }, func(c *Cell) { c.Hist[64]++; c.Count++ }, func(c *Cell) { c.Hist[0]++; c.Count++ },
		func(c *Cell) { c.Hist[7], c.Hist[8] = -1, 1 }, func(c *Cell) { c.Hist[30], c.Hist[31] = most, most },
		func(c *Cell) { *c = Cell{Sum: wide.Of(1)} }, func(c *Cell) { *c = Cell{Min: -1} }, func(c *Cell) { *c = Cell{Max: 1} }, func(c *Cell) { *c = Cell{Min: 1, Max: 1} },
		func(c *Cell) { *c = Cell{Count: -1} }, func(c *Cell) { *c = Cell{Hist: hist.Hist{1: 1}} }, func(c *Cell) { *c = Cell{Hist: hist.Hist{1: -1, 2: 1}} }, func(c *Cell) { *c = Cell{Count: 1} },
		func(c *Cell) { *c = Cell{Certain: -1} },
	} {
		c := Fold(3, 5, 100, 200)
		change(&c)
		list = append(list, c)
	}
	return list
}

func TestP21_1Right(t *testing.T) {
	for i, c := range wrong() {
		if c.Right() {
			t.Error(i, c)
		}
		for _, call := range []func() (Cell, api.Errno){
			func() (Cell, api.Errno) { return c.Add(1) }, func() (Cell, api.Errno) { return c.Note(true) }, func() (Cell, api.Errno) { return c.Note(false) },
			func() (Cell, api.Errno) { return Merge(c) }, func() (Cell, api.Errno) { return Merge(Fold(1), c) },
			func() (Cell, api.Errno) { return Merge(rich(most, wide.Int{}), rich(most, wide.Int{}), c) },
		} {
			if d, e := call(); d != (Cell{}) || e != api.ErrForm {
				t.Error(i, d, e)
			}
		}
		if b := c.Bytes(); len(b) != 0 {
			t.Error(i, b)
		}
	}
	for i, c := range []Cell{{}, {Certain: most, Possible: most}, rich(most, wide.Int{Hi: least}), rich(1, wide.Of(-7)), {Count: 2, Min: 5, Max: 6, Hist: hist.Hist{4: 2}}} {
		if !c.Right() {
			t.Error(i, c)
		}
	}
}

func TestP21_1AddNote(t *testing.T) {
	r := rand.New(rand.NewSource(2))
	for range 100 {
		list := values(r)
		var c Cell
		for i, v := range list {
			d, e := c.Add(v)
			if e != api.OK || d != Fold(list[:i+1]...) {
				t.Fatal(list, i, d, e)
			}
			c = d
		}
	}
	c, e := Fold(7).Note(true)
	d, f := c.Note(false)
	if c.Certain != 1 || c.Possible != 0 || d.Certain != 1 || d.Possible != 1 || d.Count != 1 || e != api.OK || f != api.OK {
		t.Error(c, d, e, f)
	}
	d, _ = d.Add(9)
	if d.Certain != 1 || d.Possible != 1 {
		t.Error(d)
	}
	full := Cell{Certain: most, Possible: most}
	for _, certain := range []bool{true, false} {
		if c, e := full.Note(certain); c != (Cell{}) || e != api.ErrOver {
			t.Error(c, e)
		}
	}
	for i, k := range []struct {
		c   Cell
		v   int64
		err api.Errno
	}{
		{rich(most, wide.Int{}), 5, api.ErrOver}, {rich(most-1, wide.Int{}), 5, 0}, {rich(most, wide.Int{}), 100, api.ErrOver},
		{rich(1, wide.Int{Hi: most, Lo: math.MaxUint64}), 1, api.ErrOver}, {rich(1, wide.Int{Hi: most, Lo: math.MaxUint64}), 0, 0}, {rich(1, wide.Int{Hi: least}), -1, api.ErrOver}, {rich(1, wide.Int{Hi: least}), 1, 0},
	} {
		if c, e := k.c.Add(k.v); e != k.err || (e != api.OK) != (c == Cell{}) {
			t.Error(i, c, e)
		}
	}
}

func TestP21_1Merge(t *testing.T) {
	if c, e := Merge(); c != (Cell{}) || e != api.OK {
		t.Error(c, e)
	}
	r := rand.New(rand.NewSource(3))
	for range 300 {
		var cells []Cell
		var all []int64
		for range r.Intn(4) {
			list := values(r)
			cells, all = append(cells, Fold(list...)), append(all, list...)
		}
		if c, e := Merge(cells...); e != api.OK || c != Fold(all...) {
			t.Fatal(cells, c, e)
		}
	}
	top, low := wide.Int{Hi: most, Lo: math.MaxUint64}, wide.Int{Hi: least}
	for i, k := range []struct {
		list []Cell
		sum  wide.Int
		err  api.Errno
	}{
		{[]Cell{rich(1, top), rich(1, top), rich(1, low), rich(1, low)}, wide.Of(-2), 0}, {[]Cell{rich(1, low), rich(1, low), rich(1, top), rich(1, top)}, wide.Of(-2), 0},
		{[]Cell{rich(1, top), rich(1, wide.Of(1))}, wide.Int{}, api.ErrOver}, {[]Cell{rich(1, low), rich(1, wide.Of(-1))}, wide.Int{}, api.ErrOver},
		{[]Cell{rich(1, top), rich(1, wide.Of(1)), rich(1, wide.Of(-1))}, top, 0},
		{[]Cell{rich(most, wide.Of(1)), rich(1, wide.Of(1))}, wide.Int{}, api.ErrOver}, {[]Cell{rich(most-1, wide.Of(1)), rich(1, wide.Of(1))}, wide.Of(2), 0},
		{[]Cell{rich(most, wide.Of(1)), Fold(-1)}, wide.Int{}, api.ErrOver},
		{[]Cell{{Certain: most}, {Certain: 1}}, wide.Int{}, api.ErrOver}, {[]Cell{{Possible: most}, {Possible: 1}}, wide.Int{}, api.ErrOver}, {[]Cell{{Certain: most - 1, Possible: 5}, {Certain: 1}}, wide.Int{}, 0},
	} {
		kept := slices.Clone(k.list)
		if c, e := Merge(k.list...); c.Sum != k.sum || e != k.err || e != api.OK && c != (Cell{}) || e == api.OK && !c.Right() {
			t.Error(i, c, e)
		}
		if !slices.Equal(kept, k.list) {
			t.Error(i, "changed")
		}
	}
	a, b := Fold(4), Cell{Certain: 3, Possible: 2}
	if c, e := Merge(b, a, b); e != api.OK || c.Certain != 6 || c.Possible != 4 || c.Min != 4 || c.Max != 4 || c.Count != 1 {
		t.Error(c, e)
	}
}

func TestP21_2Bytes(t *testing.T) {
	c, _ := Fold(3, -1).Note(true)
	want := slices.Concat(code.Uints(2, 1, 0), code.Ints(-1, 3), code.Texts(string(wide.Bytes(wide.Of(2)))), code.Uints(2, 0, 1, 3, 1))
	if !bytes.Equal(c.Bytes(), want) {
		t.Error(c.Bytes())
	}
	r := rand.New(rand.NewSource(4))
	list := []Cell{{}, {Certain: most, Possible: most}, rich(most, wide.Int{Hi: least})}
	for range 200 {
		list = append(list, Fold(values(r)...))
	}
	for _, c := range list {
		b := c.Bytes()
		if d, e := Back(b); d != c || e != api.OK {
			t.Fatal(c, d, e)
		}
		for n := range b {
			if d, e := Back(b[:n]); d != (Cell{}) || e != api.ErrEnd {
				t.Fatal(c, n, d, e)
			}
		}
		if d, e := Back(append(b, 0)); d != (Cell{}) || e != api.ErrForm {
			t.Fatal(c, d, e)
		}
	}
}

func TestP21_2BackWrong(t *testing.T) {
	sum := code.Texts(string(wide.Bytes(wide.Of(2))))
	head := slices.Concat(code.Uints(2, 0, 0), code.Ints(1, 1), sum)
	with := func(list ...uint64) []byte { return slices.Concat(head, code.Uints(list...)) }
	two := slices.Concat(code.Uints(2, 0, 0), code.Ints(1, 2), sum)
	if _, e := Back(append(slices.Clone(two), code.Uints(2, 2, 1, 3, 1)...)); e != api.OK {
		t.Error(e)
	}
	for i, k := range []struct {
		b   []byte
		err api.Errno
	}{
		{append(slices.Clone(two), code.Uints(2, 3, 1, 2, 1)...), api.ErrForm}, {append(slices.Clone(two), code.Uints(3, 2, 1, 2, 1, 3, 1)...), api.ErrForm}, {append(slices.Clone(two), code.Uints(3, 2, 1, 3, 1, 3, 1)...), api.ErrForm},
		{nil, api.ErrEnd}, {with(1, 2, 2), 0}, {with(1, 2, 1), api.ErrForm}, {with(2, 2, 1, 2, 1), api.ErrForm}, {with(2, 3, 1, 2, 1), api.ErrForm}, {with(2, 2, 2, 3, 0), api.ErrForm}, {with(2, 2, 2, 65, 1), api.ErrForm},
		{with(2, 2, 2, math.MaxUint64, 1), api.ErrForm}, {with(2, 2, 2, 64, 1<<63), api.ErrForm}, {with(66), api.ErrLong}, {with(65), api.ErrEnd}, {with(1, 2), api.ErrEnd}, {with(3, 9, 1, 2, 1, 3), api.ErrEnd},
		{with(3, 2, 2, 3, 0), api.ErrEnd}, {append(with(1, 2), 0x80, 0), api.ErrForm}, {append(with(2, 9, 9, 2), 0x80), api.ErrEnd}, {with(1, 2, 2, 7), api.ErrForm}, {with(1, 3, 2), api.ErrForm},
		{slices.Concat(code.Uints(1<<63, 0, 0), code.Ints(1, 1), sum, code.Uints(1, 2, 2)), api.ErrForm},
		{slices.Concat(code.Uints(2, 1<<63, 0), code.Ints(1, 1), sum, code.Uints(1, 2, 2)), api.ErrForm},
		{slices.Concat(code.Uints(2, 0, math.MaxUint64), code.Ints(1, 1), sum, code.Uints(1, 2, 2)), api.ErrForm},
		{slices.Concat(code.Uints(2, 0, 0), code.Ints(1, 1), code.Texts("123456789012345"), code.Uints(1, 2, 2)), api.ErrForm},
		{slices.Concat(code.Uints(2, 0, 0), code.Ints(1, 1), code.Texts(""), code.Uints(1, 2, 2)), api.ErrForm},
		{slices.Concat(code.Uints(2, 0, 0), code.Ints(1, 1), code.Texts("12345678901234567"), code.Uints(1, 2, 2)), api.ErrLong},
		{slices.Concat(code.Uints(2, 0, 0), code.Ints(1, 1), code.Texts("short"), code.Uints(1, 2)), api.ErrEnd},
		{slices.Concat(code.Uints(2, 0, 0), code.Ints(1, 0), sum, code.Uints(1, 2, 2)), api.ErrForm},
	} {
		if c, e := Back(k.b); e != k.err || (e != api.OK) != (c == Cell{}) {
			t.Error(i, c, e)
		}
	}
}
