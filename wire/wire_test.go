package wire

import (
	"math"
	"reflect"
	"slices"
	"testing"

	"noonmark/api"
)

func start(t *testing.T, most int) *Wire {
	t.Helper()
	w, e := New(most)
	if e != api.OK {
		t.Fatal(e)
	}
	return w
}

// unchanged makes a call that must change nothing.
func unchanged(t *testing.T, w *Wire, call func()) {
	t.Helper()
	before := w.Clone()
	call()
	if !reflect.DeepEqual(before, w) {
		t.Error("changed")
	}
}

func packet(up bool, agent, sent int64, b string) Packet { return Packet{up, agent, sent, []byte(b)} }

func TestP26_1New(t *testing.T) {
	for _, most := range []int{0, -1, 4097, math.MaxInt, math.MinInt} {
		if w, e := New(most); w != nil || e != api.ErrRange {
			t.Error(most, e)
		}
	}
	for _, most := range []int{1, 4096} {
		if w := start(t, most); w.Next() != 0 || len(w.Flying()) != 0 {
			t.Error(most)
		}
	}
}

func TestP26_1Put(t *testing.T) {
	w := start(t, 3)
	if n, e := w.Put(); n != 0 || e != api.OK {
		t.Error(n, e)
	}
	if n, e := w.Put(packet(true, 0, 0, "a"), packet(false, 63, api.MaxTime, "")); n != 0 || e != api.OK || w.Next() != 2 {
		t.Error(n, e)
	}
	good := packet(true, 1, 1, "c")
	for i, c := range []struct {
		list []Packet
		want api.Errno
	}{
		{[]Packet{good, packet(true, -1, 0, "")}, api.ErrForm}, {[]Packet{packet(true, 64, 0, "")}, api.ErrForm}, {[]Packet{packet(true, 0, -1, "")}, api.ErrForm}, {[]Packet{packet(true, 0, api.MaxTime+1, "")}, api.ErrForm},
		{[]Packet{good, good}, api.ErrFull}, {[]Packet{good, good, packet(true, math.MinInt64, 0, "")}, api.ErrForm},
	} {
		unchanged(t, w, func() {
			if n, e := w.Put(c.list...); n != -1 || e != c.want {
				t.Error(i, n, e)
			}
		})
	}
	if n, e := w.Put(good); n != 2 || e != api.OK {
		t.Error(n, e)
	}
	if n, e := w.Put(); n != 3 || e != api.OK {
		t.Error(n, e)
	}
	if n, e := w.Put(good); n != -1 || e != api.ErrFull {
		t.Error(n, e)
	}
}

func TestP26_1TakeDouble(t *testing.T) {
	w := start(t, 3)
	w.Put(packet(true, 3, 5, "abc"), packet(false, 4, 6, "d"))
	if n, e := w.Double(0); n != 2 || e != api.OK || w.Next() != 3 {
		t.Error(n, e)
	}
	unchanged(t, w, func() {
		if n, e := w.Double(0); n != -1 || e != api.ErrFull {
			t.Error(n, e)
		}
		for _, n := range []int64{3, -1, math.MaxInt64, math.MinInt64} {
			if k, e := w.Double(n); k != -1 || e != api.ErrNone {
				t.Error(n, k, e)
			}
			if p, e := w.Take(n); !reflect.DeepEqual(p, Packet{}) || e != api.ErrNone {
				t.Error(n, p, e)
			}
		}
	})
	p, e := w.Take(0)
	if !reflect.DeepEqual(p, packet(true, 3, 5, "abc")) || e != api.OK || !slices.Equal(w.Flying(), []int64{1, 2}) {
		t.Error(p, e, w.Flying())
	}
	p.Bytes[0] = 'x'
	if p, e := w.Take(0); !reflect.DeepEqual(p, Packet{}) || e != api.ErrNone {
		t.Error(p, e)
	}
	if n, e := w.Double(0); n != -1 || e != api.ErrNone {
		t.Error(n, e)
	}
	if p, e := w.Take(2); !reflect.DeepEqual(p, packet(true, 3, 5, "abc")) || e != api.OK {
		t.Error(p, e)
	}
	if n, e := w.Put(packet(true, 1, 1, "")); n != 3 || e != api.OK {
		t.Error("numbers go on", n, e)
	}
}

func TestP26_2Lists(t *testing.T) {
	w := start(t, 10)
	w.Put(packet(true, 3, 0, "a"), packet(false, 3, 0, "b"), packet(true, 4, 0, "c"), packet(true, 3, 0, "d"))
	w.Double(1)
	w.Take(2)
	for i, c := range []struct {
		up    bool
		agent int64
		want  []int64
	}{{true, 3, []int64{0, 3}}, {false, 3, []int64{1, 4}}, {true, 4, nil}, {false, 4, nil}, {true, -1, nil}, {true, math.MaxInt64, nil}} {
		if list := w.For(c.up, c.agent); !slices.Equal(list, c.want) {
			t.Error(i, list)
		}
	}
	if !slices.Equal(w.Flying(), []int64{0, 1, 3, 4}) || w.Next() != 5 {
		t.Error(w.Flying())
	}
	if p, ok := w.Of(4); !reflect.DeepEqual(p, packet(false, 3, 0, "b")) || !ok {
		t.Error(p, ok)
	}
	if p, ok := w.Of(2); !reflect.DeepEqual(p, Packet{}) || ok {
		t.Error(p, ok)
	}
}

func TestP26_2Memory(t *testing.T) {
	w, b := start(t, 10), []byte("abc")
	w.Put(Packet{Bytes: b})
	b[0] = 'x'
	p, _ := w.Of(0)
	p.Bytes[1] = 'y'
	_ = append(p.Bytes, 'z')
	w.Double(0)
	c := w.Clone()
	one, _ := c.Take(0)
	one.Bytes[2] = 'z'
	two, _ := w.Take(1)
	three, _ := w.Take(0)
	if string(two.Bytes) != "abc" || string(three.Bytes) != "abc" {
		t.Error(string(two.Bytes), string(three.Bytes))
	}
	c.Put(Packet{})
	if w.Next() != 2 || c.Next() != 3 || len(w.Flying()) != 0 || !slices.Equal(c.Flying(), []int64{1, 2}) {
		t.Error(w.Flying(), c.Flying())
	}
}
