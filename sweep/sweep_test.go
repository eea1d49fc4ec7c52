package sweep

import (
	"math"
	"math/rand"
	"slices"
	"testing"

	"noonmark/gap"
)

// numbers are those near which ends of the tests' gaps lie, and all between.
func numbers() []int64 {
	list := []int64{math.MinInt64, math.MinInt64 + 1}
	for x := int64(-3); x <= 13; x++ {
		list = append(list, x)
	}
	return append(list, math.MaxInt64-1, math.MaxInt64)
}

func random(r *rand.Rand) []gap.Gap {
	all := numbers()
	list := make([]gap.Gap, r.Intn(8))
	for i := range list {
		list[i] = gap.Gap{Lo: all[r.Intn(len(all))], Hi: all[r.Intn(len(all))]}
		if r.Intn(3) > 0 && !list[i].Right() {
			list[i].Lo, list[i].Hi = list[i].Hi, list[i].Lo
		}
	}
	return list
}

func votes(x int64, list []gap.Gap) int {
	n := 0
	for _, g := range list {
		if g.Lo <= x && x <= g.Hi {
			n++
		}
	}
	return n
}

func best(list []gap.Gap) (gap.Gap, int) {
	most, at := 0, int64(0)
	for _, x := range numbers() {
		if n := votes(x, list); n > most {
			most, at = n, x
		}
	}
	if most == 0 {
		return gap.Gap{}, 0
	}
	meet := gap.Gap{Lo: math.MinInt64, Hi: math.MaxInt64}
	for _, g := range list {
		if g.Lo <= at && at <= g.Hi {
			meet = gap.Gap{Lo: max(meet.Lo, g.Lo), Hi: min(meet.Hi, g.Hi)}
		}
	}
	return meet, most
}

func without(faults int, list []gap.Gap) (gap.Gap, bool) {
	n := 0
	for _, g := range list {
		if g.Lo <= g.Hi {
			n++
		}
	}
	var found []int64
	for _, x := range numbers() {
		if votes(x, list) >= n-faults {
			found = append(found, x)
		}
	}
	if faults < 0 || faults >= n || len(found) == 0 {
		return gap.Gap{}, false
	}
	return gap.Gap{Lo: found[0], Hi: found[len(found)-1]}, true
}

func TestP17_1Random(t *testing.T) {
	r := rand.New(rand.NewSource(1))
	for range 20000 {
		list := random(r)
		kept := slices.Clone(list)
		for _, x := range []int64{math.MinInt64, 0, 5, math.MaxInt64} {
			if Votes(x, list...) != votes(x, list) {
				t.Fatal("Votes", x, list)
			}
		}
		g, n := Best(list...)
		want, most := best(list)
		if g != want || n != most {
			t.Fatal("Best", list, g, n, want, most)
		}
		agree := len(list) > 0 && most == len(list)
		if Agree(list...) != agree {
			t.Fatal("Agree", list)
		}
		if !slices.Equal(kept, list) {
			t.Fatal("changed")
		}
	}
}

func TestP17_1Examples(t *testing.T) {
	list := []gap.Gap{{Lo: 0, Hi: 5}, {Lo: 3, Hi: 9}, {Lo: 4, Hi: 4}}
	if g, n := Best(list...); g != (gap.Gap{Lo: 4, Hi: 4}) || n != 3 {
		t.Error(g, n)
	}
	if g, n := Best(); g != (gap.Gap{}) || n != 0 {
		t.Error(g, n)
	}
	if g, n := Best(gap.Gap{Lo: 2, Hi: 1}); g != (gap.Gap{}) || n != 0 {
		t.Error(g, n)
	}
	// The intersection goes on beyond the place where others end.
	if g, n := Best(gap.Gap{Lo: 0, Hi: 1}, gap.Gap{Lo: 5, Hi: 9}); g != (gap.Gap{Lo: 0, Hi: 1}) || n != 1 {
		t.Error(g, n)
	}
	if g, n := Best(gap.Gap{Lo: 1, Hi: 4}, gap.Gap{Lo: 4, Hi: 9}); g != (gap.Gap{Lo: 4, Hi: 4}) || n != 2 {
		t.Error(g, n)
	}
	if Agree() || Agree(gap.Gap{Lo: 2, Hi: 1}) || Agree(gap.Gap{Lo: 0, Hi: 5}, gap.Gap{Lo: 2, Hi: 1}) || !Agree(gap.Gap{Lo: 3, Hi: 3}) || !Agree(list...) {
		t.Error("Agree")
	}
	if Votes(4) != 0 || Votes(4, list...) != 3 || Votes(5, list...) != 2 || Votes(10, list...) != 0 {
		t.Error("Votes")
	}
}

func TestP17_2Without(t *testing.T) {
	r := rand.New(rand.NewSource(2))
	for range 20000 {
		list := random(r)
		kept := slices.Clone(list)
		for _, faults := range []int{-1, 0, 1, 2, 3, 7, 8, math.MinInt, math.MaxInt} {
			g, ok := Without(faults, list...)
			if want, there := without(faults, list); g != want || ok != there {
				t.Fatal(faults, list, g, ok, want, there)
			}
		}
		if !slices.Equal(kept, list) {
			t.Fatal("changed")
		}
	}
	list := []gap.Gap{{Lo: 0, Hi: 5}, {Lo: 3, Hi: 9}, {Lo: 4, Hi: 4}}
	if g, ok := Without(1, list...); g != (gap.Gap{Lo: 3, Hi: 5}) || !ok {
		t.Error(g, ok)
	}
	if g, ok := Without(0); g != (gap.Gap{}) || ok {
		t.Error(g, ok)
	}
}

func TestP17_3Contains(t *testing.T) {
	r := rand.New(rand.NewSource(3))
	for range 20000 {
		list := random(r)
		valid := 0
		for _, g := range list {
			if g.Lo <= g.Hi {
				valid++
			}
		}
		for _, x := range numbers() {
			faults := valid - votes(x, list)
			if g, ok := Without(faults, list...); faults < valid && (!ok || !g.Has(x)) {
				t.Fatal(x, list, g, ok)
			}
		}
	}
}

func TestP17_3Many(t *testing.T) {
	var list []gap.Gap
	for i := range int64(200000) {
		list = append(list, gap.Gap{Lo: i, Hi: 400000 - i})
	}
	if g, n := Best(list...); n != len(list) || g != (gap.Gap{Lo: 199999, Hi: 200001}) {
		t.Error(g, n)
	}
	if g, ok := Without(10, list...); !ok || g != (gap.Gap{Lo: 199989, Hi: 200011}) {
		t.Error(g, ok)
	}
}
