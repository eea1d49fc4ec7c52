package hold

import (
	"math"
	"math/rand"
	"slices"
	"testing"

	"noonmark/api"
)

func start(t *testing.T, next int64, most int) *Hold[string] {
	t.Helper()
	h, e := New[string](next, most)
	if e != api.OK {
		t.Fatal(e)
	}
	return h
}

func TestP13_1New(t *testing.T) {
	for _, c := range []struct {
		next int64
		most int
		err  api.Errno
	}{
		{0, 1, 0}, {1 << 40, 256, 0}, {-1, 5, api.ErrRange}, {1<<40 + 1, 5, api.ErrRange}, {0, 0, api.ErrRange}, {0, 257, api.ErrRange},
		{math.MinInt64, 5, api.ErrRange}, {0, math.MaxInt, api.ErrRange}, {0, -1, api.ErrRange},
	} {
		h, e := New[int](c.next, c.most)
		if e != c.err || (h == nil) != (e != api.OK) {
			t.Error(c, h, e)
		}
		if h != nil && (h.Next() != c.next || len(h.Waiting()) != 0) {
			t.Error(c, h.Next(), h.Waiting())
		}
	}
}

func TestP13_2Example(t *testing.T) {
	h := start(t, 5, 4)
	if ready, refused := h.Offer(6, "b", "c"); len(ready) != 0 || refused != 0 {
		t.Error(ready, refused)
	}
	if ready, refused := h.Offer(5, "a", "x"); !slices.Equal(ready, []string{"a", "b", "c"}) || refused != 0 || h.Next() != 8 {
		t.Error(ready, refused, h.Next())
	}
}

func TestP13_2Edges(t *testing.T) {
	h := start(t, 5, 4)
	for i, c := range []struct {
		first   int64
		items   []string
		ready   []string
		refused int
		waiting []int64
	}{
		{-1, []string{"a", "b"}, nil, 2, nil},
		{math.MinInt64, []string{"a"}, nil, 1, nil},
		{1<<41 + 1, []string{"a", "b", "c"}, nil, 3, nil},
		{math.MaxInt64, []string{"a"}, nil, 1, nil},
		{1 << 41, []string{"a"}, nil, 1, nil},
		{5, nil, nil, 0, nil},
		{-1, nil, nil, 0, nil},
		{3, []string{"y", "z"}, nil, 0, nil},
		{8, []string{"d", "e", "f"}, nil, 2, []int64{8}},
		{8, []string{"D"}, nil, 0, []int64{8}},
		// The next number stands still while items are looked at: 9 is refused though 5 comes first.
		{4, []string{"x", "a", "b", "c", "d2", "e"}, []string{"a", "b", "c", "d"}, 1, nil},
		{5, []string{"a"}, nil, 0, nil},
		{9, []string{"e"}, []string{"e"}, 0, nil},
		{13, []string{"i", "j"}, nil, 1, []int64{13}},
		{11, []string{"g"}, nil, 0, []int64{11, 13}},
	} {
		kept := slices.Clone(c.items)
		ready, refused := h.Offer(c.first, c.items...)
		if !slices.Equal(ready, c.ready) || refused != c.refused || !slices.Equal(h.Waiting(), c.waiting) || !slices.Equal(kept, c.items) {
			t.Error(i, ready, refused, h.Waiting())
		}
	}
	if h.Next() != 10 {
		t.Error(h.Next())
	}
}

func TestP13_2Shuffled(t *testing.T) {
	r := rand.New(rand.NewSource(1))
	for range 200 {
		h, _ := New[int64](0, 1+r.Intn(10))
		var got []int64
		for h.Next() < 50 {
			first := h.Next() + int64(r.Intn(16)) - 4
			items := make([]int64, 1+r.Intn(4))
			for i := range items {
				items[i] = first + int64(i)
			}
			ready, _ := h.Offer(first, items...)
			got = append(got, ready...)
		}
		for i, v := range got {
			if v != int64(i) {
				t.Fatal(got)
			}
		}
		if int64(len(got)) != h.Next() {
			t.Fatal(len(got), h.Next())
		}
	}
}

func TestP13_3DrainClone(t *testing.T) {
	h := start(t, 0, 10)
	h.Offer(7, "h", "i")
	h.Offer(2, "c")
	c := h.Clone()
	if !slices.Equal(h.Waiting(), []int64{2, 7, 8}) || h.Next() != 0 {
		t.Error(h.Waiting())
	}
	if list := h.Drain(); !slices.Equal(list, []string{"c", "h", "i"}) || len(h.Waiting()) != 0 || h.Next() != 0 {
		t.Error(list, h.Waiting())
	}
	if list := h.Drain(); len(list) != 0 {
		t.Error(list)
	}
	if ready, _ := h.Offer(0, "A", "B", "C", "D"); !slices.Equal(ready, []string{"A", "B", "C", "D"}) {
		t.Error(ready)
	}
	if !slices.Equal(c.Waiting(), []int64{2, 7, 8}) || c.Next() != 0 {
		t.Error(c.Waiting(), c.Next())
	}
	if ready, refused := c.Offer(0, "a", "b"); !slices.Equal(ready, []string{"a", "b", "c"}) || refused != 0 || c.Next() != 3 || h.Next() != 4 {
		t.Error(ready, c.Next())
	}
	if _, refused := c.Offer(13, "x"); refused != 1 {
		t.Error("window", refused)
	}
}
