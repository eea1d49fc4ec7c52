package hist

import (
	"math"
	"math/rand"
	"slices"
	"testing"

	"noonmark/api"
	"noonmark/gap"
	"noonmark/wide"
)

const most = math.MaxInt64

func TestP5_1Buckets(t *testing.T) {
	for i, c := range []struct {
		v    int64
		want int
	}{
		{math.MinInt64, 0}, {-1, 0}, {-5, 0}, {0, 1}, {1, 2}, {2, 3}, {3, 3}, {4, 4}, {5, 4}, {7, 4}, {8, 5},
		{1<<62 - 1, 63}, {1 << 62, 64}, {most, 64},
	} {
		if b := Bucket(c.v); b != c.want {
			t.Error(i, b)
		}
	}
	for b := range 65 {
		g, ok := Bounds(b)
		if !ok || Bucket(g.Lo) != b || Bucket(g.Hi) != b {
			t.Error(b, g, ok)
		}
		if g.Lo != math.MinInt64 && Bucket(g.Lo-1) == b || g.Hi != most && Bucket(g.Hi+1) == b {
			t.Error(b, g, "not all")
		}
	}
	for _, b := range []int{-1, 65, 66, math.MinInt, math.MaxInt} {
		if g, ok := Bounds(b); ok || g != (gap.Gap{}) {
			t.Error(b, g, ok)
		}
	}
	if g, _ := Bounds(4); g != (gap.Gap{Lo: 4, Hi: 7}) {
		t.Error(g)
	}
}

func TestP5_2OfAdd(t *testing.T) {
	h := Of(0, 1, 1, 5)
	if h != (Hist{1: 1, 2: 2, 4: 1}) || Of() != (Hist{}) {
		t.Error(h)
	}
	list := []int64{-4, 0, 9, most, math.MinInt64, 1, -1, 3}
	var sum Hist
	for i, v := range list {
		next, e := sum.Add(v)
		if e != api.OK || next != Of(list[:i+1]...) {
			t.Error(i, next, e)
		}
		sum = next
	}
	if h, e := (Hist{3: most}).Add(2); h != (Hist{}) || e != api.ErrOver {
		t.Error(h, e)
	}
	if h, e := (Hist{3: most}).Add(4); h != (Hist{3: most, 4: 1}) || e != api.OK {
		t.Error(h, e)
	}
	if h, e := (Hist{3: most, 64: -1}).Add(2); h != (Hist{}) || e != api.ErrForm {
		t.Error(h, e)
	}
}

func TestP5_2Merge(t *testing.T) {
	for i, c := range []struct {
		list []Hist
		want Hist
		err  api.Errno
	}{
		{nil, Hist{}, 0},
		{[]Hist{{1: 2}}, Hist{1: 2}, 0},
		{[]Hist{{1: 2, 64: 5}, {0: 1, 1: 3}, {64: 1}}, Hist{0: 1, 1: 5, 64: 6}, 0},
		{[]Hist{{7: most}, {7: 0, 8: 1}}, Hist{7: most, 8: 1}, 0},
		{[]Hist{{7: most}, {7: 1}}, Hist{}, api.ErrOver},
		{[]Hist{{7: most}, {7: 1}, {0: -1}}, Hist{}, api.ErrForm},
		{[]Hist{{7: most - 1}, {7: 1}}, Hist{7: most}, 0},
		{[]Hist{{5: -1}}, Hist{}, api.ErrForm},
		{[]Hist{{5: -1}, {5: 1}}, Hist{}, api.ErrForm},
	} {
		kept := slices.Clone(c.list)
		if h, e := Merge(c.list...); h != c.want || e != c.err {
			t.Error(i, h, e)
		}
		if !slices.Equal(kept, c.list) {
			t.Error(i, "changed")
		}
	}
}

func TestP5_3TotalRank(t *testing.T) {
	if v := (Hist{0: most, 1: most, 5: -3}).Total(); v != wide.Sum(most, most, -3) {
		t.Error(v)
	}
	r := rand.New(rand.NewSource(1))
	for range 50 {
		var list []int64
		for range r.Intn(20) {
			list = append(list, int64(r.Uint64())>>uint(r.Intn(64)))
		}
		h := Of(list...)
		slices.Sort(list)
		if h.Total() != wide.Of(int64(len(list))) {
			t.Fatal(list)
		}
		for k := -2; k < len(list)+2; k++ {
			want, there := 0, k >= 0 && k < len(list)
			if there {
				want = Bucket(list[k])
			}
			if b, ok := h.Rank(wide.Of(int64(k))); b != want || ok != there {
				t.Fatal(list, k, b, ok)
			}
		}
	}
}

func TestP5_3RankEdges(t *testing.T) {
	h := Hist{2: most, 3: most, 64: 1}
	for i, c := range []struct {
		k    wide.Int
		want int
		ok   bool
	}{
		{wide.Of(most - 1), 2, true}, {wide.Of(most), 3, true}, {wide.Sum(most, most, -1), 3, true},
		{wide.Sum(most, most), 64, true}, {wide.Sum(most, most, 1), 0, false},
		{wide.Int{Hi: math.MaxInt64, Lo: math.MaxUint64}, 0, false}, {wide.Int{Hi: math.MinInt64}, 0, false}, {wide.Of(-1), 0, false},
	} {
		if b, ok := h.Rank(c.k); b != c.want || ok != c.ok {
			t.Error(i, b, ok)
		}
	}
	if b, ok := (Hist{2: 5, 9: -1}).Rank(wide.Of(0)); b != 0 || ok {
		t.Error(b, ok)
	}
}

func TestP5_3Full(t *testing.T) {
	h := Hist{0: 3, 4: -2, 64: 1}
	full := h.Full()
	h[9] = 5
	for range 2 {
		var got []int64
		for b, n := range full {
			got = append(got, int64(b), n)
		}
		if !slices.Equal(got, []int64{0, 3, 4, -2, 64, 1}) {
			t.Error(got)
		}
	}
	for b := range full {
		if b != 0 {
			t.Error(b)
		}
		break
	}
	for range (Hist{}).Full() {
		t.Error("empty")
	}
}
