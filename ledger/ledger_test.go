package ledger

import (
	"math"
	"math/rand"
	"slices"
	"testing"

	"noonmark/api"
)

func TestP23_1Note(t *testing.T) {
	l := New()
	id := Id{3, 1, 0}
	for i, c := range []struct {
		id   Id
		v    Verdict
		want api.Errno
		n    int
	}{
		{Id{-1, 1, 0}, Verdict{}, api.ErrForm, 0}, {Id{1, -1, 0}, Verdict{}, api.ErrForm, 0}, {Id{1, 1, -1}, Verdict{}, api.ErrForm, 0}, {Id{math.MinInt64, 0, 0}, Verdict{}, api.ErrForm, 0},
		{id, Verdict{-1, 0}, api.ErrForm, 0}, {id, Verdict{7, 0}, api.ErrForm, 0}, {id, Verdict{math.MaxInt, 0}, api.ErrForm, 0}, {id, Verdict{VLate, 1}, api.ErrForm, 0}, {id, Verdict{VForm, -1}, api.ErrForm, 0},
		{id, Verdict{VCounted, 7}, 0, 1}, {id, Verdict{VCounted, 7}, 0, 1}, {id, Verdict{VCounted, 8}, api.ErrThere, 1}, {id, Verdict{VLate, 0}, api.ErrThere, 1}, {id, Verdict{VLate, 7}, api.ErrForm, 1},
		{Id{3, 1, 1}, Verdict{VCounted, math.MinInt64}, 0, 2}, {Id{0, 0, 0}, Verdict{}, 0, 3}, {Id{math.MaxInt64, math.MaxInt64, math.MaxInt64}, Verdict{VForm, 0}, 0, 4},
	} {
		if e := l.Note(c.id, c.v); e != c.want || l.Len() != c.n {
			t.Error(i, e, l.Len())
		}
	}
	if v, ok := l.Of(id); v != (Verdict{VCounted, 7}) || !ok {
		t.Error(v, ok)
	}
	if v, ok := l.Of(Id{3, 1, 9}); v != (Verdict{}) || ok {
		t.Error(v, ok)
	}
}

func TestP23_1Lists(t *testing.T) {
	l, r := New(), rand.New(rand.NewSource(1))
	var ids []Id
	var tally Tally
	for a := range int64(3) {
		for e := range int64(3) {
			for s := range int64(4) {
				ids = append(ids, Id{a, e, s})
			}
		}
	}
	for _, i := range r.Perm(len(ids)) {
		v := Verdict{i % 7, 0}
		if v.Reason == VCounted {
			v.Window = int64(i % 3)
		}
		tally[v.Reason]++
		l.Note(ids[i], v)
	}
	if l.Tally() != tally || New().Tally() != (Tally{}) {
		t.Error(l.Tally(), tally)
	}
	var got []Id
	for id, v := range l.All() {
		got = append(got, id)
		if w, _ := l.Of(id); w != v {
			t.Error(id, v)
		}
	}
	if !slices.Equal(got, ids) {
		t.Error(got)
	}
	var in []Id
	for i, id := range ids {
		if i%7 == 0 && i%3 == 0 {
			in = append(in, id)
		}
	}
	if !slices.Equal(l.In(0), in) || len(l.In(9)) != 0 || len(in) == 0 {
		t.Error(l.In(0), in)
	}
}

func TestP23_1All(t *testing.T) {
	l := New()
	l.Note(Id{2, 0, 0}, Verdict{})
	l.Note(Id{1, 0, 0}, Verdict{VLate, 0})
	all := l.All()
	for _, want := range []int{2, 3} {
		n := 0
		for id := range all {
			n++
			l.Note(Id{9, 9, 9}, Verdict{VHeld, 0})
			if id == (Id{9, 9, 9}) && want == 2 {
				t.Error("new")
			}
		}
		if n != want {
			t.Error(n, want)
		}
	}
	for id := range all {
		if id.Agent != 1 {
			t.Error(id)
		}
		break
	}
}

func TestP23_1Same(t *testing.T) {
	one, two, three, four := New(), New(), New(), New()
	for _, l := range []*Ledger{one, two, three} {
		l.Note(Id{1, 2, 3}, Verdict{VCounted, 5})
	}
	one.Note(Id{1, 2, 4}, Verdict{VLate, 0})
	two.Note(Id{1, 2, 4}, Verdict{VLate, 0})
	three.Note(Id{1, 2, 4}, Verdict{VHeld, 0})
	four.Note(Id{1, 2, 3}, Verdict{VCounted, 5})
	for i, c := range []struct {
		a, b *Ledger
		want bool
	}{
		{nil, nil, true}, {nil, New(), false}, {New(), nil, false}, {New(), New(), true}, {one, two, true}, {one, three, false}, {one, four, false}, {four, one, false}, {one, nil, false}, {one, one, true},
	} {
		if Same(c.a, c.b) != c.want {
			t.Error(i)
		}
	}
}
