package roll

import (
	"math"
	"reflect"
	"slices"
	"testing"

	"noonmark/api"
)

const (
	top  = api.MaxTime
	edge = 1 << 40
)

func start(t *testing.T, most int) *Roll {
	t.Helper()
	r, e := New(most)
	if e != api.OK {
		t.Fatal(e)
	}
	return r
}

func agents(r *Roll) []int64 {
	var list []int64
	for agent := range r.All() {
		list = append(list, agent)
	}
	return list
}

func TestP15_1New(t *testing.T) {
	for _, c := range []struct {
		most int
		err  api.Errno
	}{{1, 0}, {64, 0}, {0, api.ErrRange}, {65, api.ErrRange}, {-1, api.ErrRange}, {math.MaxInt, api.ErrRange}} {
		if r, e := New(c.most); e != c.err || (r == nil) != (e != api.OK) {
			t.Error(c, r, e)
		}
	}
	if list := agents(start(t, 3)); len(list) != 0 {
		t.Error(list)
	}
}

func TestP15_1Grant(t *testing.T) {
	r := start(t, 2)
	for i, c := range []struct {
		agent, boot, now int64
		want             Entry
		fresh            bool
		err              api.Errno
	}{
		{3, 1, 10, Entry{1, 1, 10}, true, 0}, {3, 1, 20, Entry{1, 1, 10}, false, 0}, {3, 2, 30, Entry{2, 2, 30}, true, 0},
		{3, 1, 40, Entry{}, false, api.ErrOld}, {3, 9, 5, Entry{3, 9, 5}, true, 0}, {3, 8, 50, Entry{}, false, api.ErrOld},
		{-1, 1, 1, Entry{}, false, api.ErrRange}, {64, 1, 1, Entry{}, false, api.ErrRange}, {3, 0, 1, Entry{}, false, api.ErrRange},
		{3, edge + 1, 1, Entry{}, false, api.ErrRange}, {3, 9, -1, Entry{}, false, api.ErrRange}, {3, 9, top + 1, Entry{}, false, api.ErrRange}, {math.MinInt64, math.MaxInt64, 0, Entry{}, false, api.ErrRange},
		{0, edge, 0, Entry{1, edge, 0}, true, 0}, {63, 1, 1, Entry{}, false, api.ErrFull}, {0, edge, top, Entry{1, edge, 0}, false, 0}, {3, edge, top, Entry{4, edge, top}, true, 0},
	} {
		before := r.Clone()
		e, fresh, err := r.Grant(c.agent, c.boot, c.now)
		if e != c.want || fresh != c.fresh || err != c.err {
			t.Error(i, e, fresh, err)
		}
		if !fresh && !reflect.DeepEqual(before, r) {
			t.Error(i, "changed")
		}
	}
	if !slices.Equal(agents(r), []int64{0, 3}) {
		t.Error(agents(r))
	}
}

func TestP15_1LastEpoch(t *testing.T) {
	r := start(t, 1)
	r.Set(3, Entry{edge - 1, 5, 0})
	if e, fresh, err := r.Grant(3, 6, 1); e != (Entry{edge, 6, 1}) || !fresh || err != api.OK {
		t.Error(e, fresh, err)
	}
	for i, c := range []struct {
		agent, boot int64
		want        Entry
		err         api.Errno
	}{{3, 6, Entry{edge, 6, 1}, 0}, {3, 5, Entry{}, api.ErrOld}, {3, 7, Entry{}, api.ErrLong}, {4, 1, Entry{}, api.ErrFull}} {
		if e, fresh, err := r.Grant(c.agent, c.boot, 9); e != c.want || fresh || err != c.err {
			t.Error(i, e, fresh, err)
		}
	}
}

func TestP15_2OfIs(t *testing.T) {
	r := start(t, 2)
	r.Grant(3, 1, 10)
	r.Grant(3, 2, 11)
	if e, ok := r.Of(3); e != (Entry{2, 2, 11}) || !ok {
		t.Error(e, ok)
	}
	for _, agent := range []int64{4, -1, 64, math.MinInt64} {
		if e, ok := r.Of(agent); e != (Entry{}) || ok || r.Is(agent, 0) || r.Is(agent, 1) {
			t.Error(agent, e, ok)
		}
	}
	if !r.Is(3, 2) || r.Is(3, 1) || r.Is(3, 0) || r.Is(3, 3) {
		t.Error("Is")
	}
}

func TestP15_2All(t *testing.T) {
	r := start(t, 5)
	for _, agent := range []int64{9, 3, 60, 0} {
		r.Grant(agent, 1, agent)
	}
	all := r.All()
	r.Grant(3, 7, 8)
	var list []int64
	for agent, e := range all {
		list = append(list, agent, e.Epoch)
		r.Grant(61, 1, 1)
		r.Grant(60, 5, 5)
	}
	if !slices.Equal(list, []int64{0, 1, 3, 2, 9, 1, 60, 1}) {
		t.Error(list)
	}
	list = nil
	for agent, e := range all {
		list = append(list, agent, e.Epoch)
		if agent == 60 {
			break
		}
	}
	if !slices.Equal(list, []int64{0, 1, 3, 2, 9, 1, 60, 2}) {
		t.Error(list)
	}
}

func TestP15_2Set(t *testing.T) {
	r := start(t, 2)
	for i, c := range []struct {
		agent int64
		e     Entry
		err   api.Errno
	}{
		{-1, Entry{1, 1, 1}, api.ErrRange}, {64, Entry{1, 1, 1}, api.ErrRange}, {3, Entry{0, 1, 1}, api.ErrRange}, {3, Entry{edge + 1, 1, 1}, api.ErrRange},
		{3, Entry{1, 0, 1}, api.ErrRange}, {3, Entry{1, edge + 1, 1}, api.ErrRange}, {3, Entry{1, 1, -1}, api.ErrRange}, {3, Entry{1, 1, top + 1}, api.ErrRange},
		{63, Entry{edge, edge, top}, 0}, {63, Entry{1, 1, 1}, api.ErrThere}, {63, Entry{0, 1, 1}, api.ErrRange}, {0, Entry{1, 1, 0}, 0}, {5, Entry{1, 1, 1}, api.ErrFull}, {0, Entry{1, 1, 1}, api.ErrThere},
	} {
		before := r.Clone()
		if e := r.Set(c.agent, c.e); e != c.err {
			t.Error(i, e)
		} else if e != api.OK && !reflect.DeepEqual(before, r) {
			t.Error(i, "changed")
		}
	}
	if e, _ := r.Of(63); e != (Entry{edge, edge, top}) {
		t.Error(e)
	}
}

func TestP15_2Clone(t *testing.T) {
	r := start(t, 2)
	r.Grant(3, 1, 10)
	c := r.Clone()
	r.Grant(3, 2, 11)
	r.Grant(4, 2, 11)
	if e, _ := c.Of(3); e.Epoch != 1 || len(agents(c)) != 1 {
		t.Error(e)
	}
	if _, _, e := c.Grant(5, 1, 1); e != api.OK {
		t.Error(e)
	}
	if _, _, e := c.Grant(6, 1, 1); e != api.ErrFull {
		t.Error(e)
	}
}
