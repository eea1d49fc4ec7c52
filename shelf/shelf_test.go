package shelf

import (
	"math"
	"math/rand"
	"reflect"
	"slices"
	"testing"

	"noonmark/api"
	"noonmark/cell"
	"noonmark/wide"
)

const (
	least = math.MinInt64
	most  = math.MaxInt64
)

func start(t *testing.T, most int) *Shelf {
	t.Helper()
	s, e := New(most)
	if e != api.OK {
		t.Fatal(e)
	}
	return s
}

// try makes a call that must return an error, and change something only without one.
func try(t *testing.T, s *Shelf, want api.Errno, call func() api.Errno) {
	t.Helper()
	before := s.Clone()
	if e := call(); e != want || e != api.OK && !reflect.DeepEqual(before, s) {
		t.Error(e, want)
	}
}

func windows(s *Shelf) []int64 {
	var list []int64
	for k := range s.All() {
		list = append(list, k.Window)
	}
	return list
}

func TestP22_1NewRoom(t *testing.T) {
	for _, n := range []int{0, -1, 1025, math.MaxInt, math.MinInt} {
		if s, e := New(n); s != nil || e != api.ErrRange {
			t.Error(n, e)
		}
	}
	start(t, 1)
	if s := start(t, 1024); s.Len() != 0 || !s.Room(1, 1024, "m") || s.Room(1, 1025, "m") || !s.Room(least, least+1023, "m") || !s.Room(most-1023, most, "m") {
		t.Error("1024")
	}
	s := start(t, 3)
	s.Note(1, 2, "m")
	for i, c := range []struct {
		first, last int64
		series      string
		want        bool
	}{
		{1, 2, "m", true}, {0, 2, "m", true}, {1, 3, "m", true}, {2, 4, "m", false}, {0, 3, "m", false}, {5, 5, "m", true}, {5, 6, "m", false}, {1, 1, "n", true}, {1, 2, "n", false},
		{2, 1, "m", false}, {least, most, "m", false}, {most, least, "m", false}, {0, most, "m", false}, {least, -1, "m", false}, {most, most, "m", true}, {least, least, "", true}, {-1, most - 1, "", false},
	} {
		if s.Room(c.first, c.last, c.series) != c.want {
			t.Error(i, c)
		}
	}
}

func TestP22_1Note(t *testing.T) {
	s := start(t, 3)
	try(t, s, api.OK, func() api.Errno { return s.Note(1, 2, "m") })
	try(t, s, api.OK, func() api.Errno { return s.Count(Key{2, "m"}, 5) })
	if a, ok := s.Of(Key{1, "m"}); a != (cell.Cell{Possible: 1}) || !ok {
		t.Error(a, ok)
	}
	want := cell.Fold(5)
	want.Possible = 1
	if b, ok := s.Of(Key{2, "m"}); b != want || !ok {
		t.Error(b, ok)
	}
	try(t, s, api.ErrFull, func() api.Errno { return s.Note(3, 4, "m") })
	try(t, s, api.ErrForm, func() api.Errno { return s.Note(4, 3, "m") })
	try(t, s, api.ErrForm, func() api.Errno { return s.Note(most, least, "m") })
	try(t, s, api.ErrFull, func() api.Errno { return s.Note(least, most, "m") })
	try(t, s, api.OK, func() api.Errno { return s.Note(1, 1, "m") })
	try(t, s, api.OK, func() api.Errno { return s.Note(2, 2, "n") })
	if a, _ := s.Of(Key{1, "m"}); a != (cell.Cell{Possible: 1, Certain: 1}) || s.Len() != 3 {
		t.Error(a, s.Len())
	}
	try(t, s, api.ErrFull, func() api.Errno { return s.Note(3, 3, "m") })
	for _, c := range []cell.Cell{{Certain: most}, {Possible: most}} {
		s = start(t, 4)
		s.Set(Key{2, "m"}, c)
		want := api.OK
		if c.Certain == 0 {
			want = api.ErrOver
		}
		try(t, s, want, func() api.Errno { return s.Note(1, 3, "m") })
		try(t, s, api.ErrOver-want, func() api.Errno { return s.Note(2, 2, "m") })
	}
}

func TestP22_1Count(t *testing.T) {
	s := start(t, 3)
	full := cell.Fold(5)
	full.Count, full.Hist[4] = most, most
	s.Set(Key{1, "m"}, full)
	s.Note(2, 2, "m")
	try(t, s, api.ErrOver, func() api.Errno { return s.Count(Key{1, "m"}, 5) })
	try(t, s, api.ErrNone, func() api.Errno { return s.Count(Key{1, "n"}, 5) })
	try(t, s, api.ErrNone, func() api.Errno { return s.Count(Key{3, "m"}, 5) })
	try(t, s, api.OK, func() api.Errno { return s.Count(Key{2, "m"}, least) })
	if c, _ := s.Of(Key{2, "m"}); c.Sum != wide.Of(least) || c.Certain != 1 || c.Count != 1 {
		t.Error(c)
	}
}

func TestP22_2All(t *testing.T) {
	s := start(t, 10)
	for _, k := range []Key{{5, "b"}, {-3, "z"}, {5, "a"}, {7, ""}, {5, "aa"}, {most, "m"}, {least, "m"}} {
		s.Set(k, cell.Fold(k.Window))
	}
	want := []Key{{least, "m"}, {-3, "z"}, {5, "a"}, {5, "aa"}, {5, "b"}, {7, ""}, {most, "m"}}
	all := s.All()
	for range 2 {
		var got []Key
		for k, c := range all {
			got = append(got, k)
			if k.Series != "new" && c.Min != k.Window {
				t.Error(k, c)
			}
			s.Close(6)
			s.Note(6, 6, "new")
		}
		if !slices.Equal(got, want) {
			t.Error(got)
		}
		want = []Key{{6, "new"}, {7, ""}, {most, "m"}}
		s.Count(Key{7, ""}, 7)
	}
	for k := range all {
		if k.Window != 6 {
			t.Error(k)
		}
		break
	}
}

func TestP22_2CloseSet(t *testing.T) {
	s := start(t, 4)
	for _, k := range []Key{{3, "b"}, {1, "c"}, {3, "a"}, {4, "a"}} {
		try(t, s, api.OK, func() api.Errno { return s.Set(k, cell.Fold(k.Window)) })
	}
	try(t, s, api.ErrThere, func() api.Errno { return s.Set(Key{3, "a"}, cell.Cell{Count: 1}) })
	try(t, s, api.ErrForm, func() api.Errno { return s.Set(Key{9, "a"}, cell.Cell{Count: 1}) })
	try(t, s, api.ErrFull, func() api.Errno { return s.Set(Key{9, "a"}, cell.Cell{}) })
	if list := s.Close(1); len(list) != 0 || s.Len() != 4 {
		t.Error(list)
	}
	list := s.Close(4)
	want := []Out{{Key{1, "c"}, cell.Fold(1)}, {Key{3, "a"}, cell.Fold(3)}, {Key{3, "b"}, cell.Fold(3)}}
	if !slices.Equal(list, want) || s.Len() != 1 || !slices.Equal(windows(s), []int64{4}) {
		t.Error(list, s.Len())
	}
	if c, ok := s.Of(Key{3, "a"}); c != (cell.Cell{}) || ok {
		t.Error(c, ok)
	}
	c := s.Clone()
	s.Close(most)
	s.Note(9, 9, "x")
	if !slices.Equal(windows(c), []int64{4}) || c.Room(1, 4, "y") || !c.Room(1, 3, "y") {
		t.Error(windows(c))
	}
	c.Count(Key{4, "a"}, 1)
	if s.Len() != 1 {
		t.Error(s.Len())
	}
}

func TestP22_3Events(t *testing.T) {
	r := rand.New(rand.NewSource(1))
	s := start(t, 1024)
	tallies, values := map[Key][2]int64{}, map[Key][]int64{}
	for range 2000 {
		first := r.Int63n(30)
		last, series := first+r.Int63n(3), string(rune('a'+r.Intn(3)))
		in := Key{first + r.Int63n(last-first+1), series}
		if s.Note(first, last, series) != api.OK || s.Count(in, first-9) != api.OK {
			t.Fatal("full")
		}
		values[in] = append(values[in], first-9)
		for w := first; w <= last; w++ {
			n := tallies[Key{w, series}]
			if first == last {
				n[0]++
			} else {
				n[1]++
			}
			tallies[Key{w, series}] = n
		}
	}
	if s.Len() != len(tallies) {
		t.Error(s.Len(), len(tallies))
	}
	for k, c := range s.All() {
		want := cell.Fold(values[k]...)
		want.Certain, want.Possible = tallies[k][0], tallies[k][1]
		if c != want {
			t.Error(k, c)
		}
	}
}
