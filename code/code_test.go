package code

import (
	"bytes"
	"math"
	"math/rand"
	"strings"
	"testing"

	"noonmark/api"
)

func values() []uint64 {
	list := []uint64{0, 1, 127, 128, 300, 16383, 16384, math.MaxUint64, math.MaxUint64 - 1, 1 << 63, 1<<63 - 1}
	for k := range 64 {
		list = append(list, 1<<k, 1<<k-1)
	}
	r := rand.New(rand.NewSource(1))
	for range 100 {
		list = append(list, r.Uint64()>>uint(r.Intn(64)))
	}
	return list
}

func TestP6_1Encode(t *testing.T) {
	for i, c := range []struct{ got, want []byte }{
		{Uints(300, 0), []byte{172, 2, 0}},
		{Uints(), nil}, {Ints(), nil}, {Texts(), nil},
		{Ints(-3), []byte{5}}, {Ints(0, -1, 1, -2, 2), []byte{0, 1, 2, 3, 4}},
		{Texts("", "ab", "\x00"), []byte{0, 2, 'a', 'b', 1, 0}},
		{Uints(127, 128), []byte{127, 128, 1}},
		{Uints(math.MaxUint64), []byte{255, 255, 255, 255, 255, 255, 255, 255, 255, 1}},
		{Ints(math.MinInt64), []byte{255, 255, 255, 255, 255, 255, 255, 255, 255, 1}},
		{Texts(strings.Repeat("x", 200))[:2], []byte{200, 1}},
	} {
		if !bytes.Equal(c.got, c.want) {
			t.Error(i, c.got)
		}
	}
}

func TestP6_1Turn(t *testing.T) {
	for i, v := range []int64{0, -1, 1, -2, 2, -3, 3} {
		if Turn(v) != uint64(i) || Unturn(uint64(i)) != v {
			t.Error(i, v)
		}
	}
	if Turn(math.MaxInt64) != math.MaxUint64-1 || Turn(math.MinInt64) != math.MaxUint64 {
		t.Error("ends")
	}
	for _, u := range values() {
		if Turn(Unturn(u)) != u || Unturn(Turn(int64(u))) != int64(u) {
			t.Error(u)
		}
	}
}

func TestP6_2Back(t *testing.T) {
	var longs []int64
	for _, u := range values() {
		longs = append(longs, int64(u), -int64(u))
	}
	texts := []string{"", "a", "\x00\xff", strings.Repeat("y", 300)}
	r := New(append(append(Uints(values()...), Ints(longs...)...), Texts(texts...)...))
	for _, u := range values() {
		if v := r.Uint(); v != u {
			t.Fatal(u, v)
		}
	}
	for _, w := range longs {
		if v := r.Int(); v != w {
			t.Fatal(w, v)
		}
	}
	for _, s := range texts {
		if v := r.Text(300); v != s {
			t.Fatal(s, v)
		}
	}
	if r.Err() != api.OK || r.End() != api.OK || r.Left() != 0 {
		t.Error(r.Err(), r.Left())
	}
}

func tens(last byte) []byte { return append(bytes.Repeat([]byte{0x80}, 9), last) }

func TestP6_2Wrong(t *testing.T) {
	for i, c := range []struct {
		b   []byte
		err api.Errno
	}{
		{nil, api.ErrEnd}, {[]byte{}, api.ErrEnd}, {[]byte{0x80}, api.ErrEnd}, {[]byte{0xff, 0xff}, api.ErrEnd},
		{[]byte{0x80, 0}, api.ErrForm}, {[]byte{0x80, 0, 1}, api.ErrForm}, {[]byte{0xff, 0x80, 0}, api.ErrForm},
		{tens(2), api.ErrForm}, {tens(0), api.ErrForm}, {tens(0x80), api.ErrForm}, {tens(0x81), api.ErrForm}, {tens(0xff), api.ErrForm},
		{tens(1)[:9], api.ErrEnd},
	} {
		for j, read := range []func(r *Reader) bool{
			func(r *Reader) bool { return r.Uint() == 0 },
			func(r *Reader) bool { return r.Int() == 0 },
			func(r *Reader) bool { return r.Count(5) == 0 },
			func(r *Reader) bool { return r.Text(5) == "" },
		} {
			r := New(c.b)
			if !read(r) || r.Err() != c.err || r.Left() != len(c.b) {
				t.Error(i, j, r.Err(), r.Left())
			}
		}
	}
	if r := New(tens(1)); r.Uint() != 1<<63 || r.Err() != api.OK {
		t.Error(r.Err())
	}
}

func TestP6_2CountText(t *testing.T) {
	for i, c := range []struct {
		u    uint64
		most int
		want int
		err  api.Errno
	}{
		{5, 5, 5, 0}, {6, 5, 0, api.ErrLong}, {0, 0, 0, 0}, {0, -1, 0, 0}, {1, -1, 0, api.ErrLong}, {1, math.MinInt, 0, api.ErrLong},
		{math.MaxUint64, math.MaxInt, 0, api.ErrLong}, {1 << 63, math.MaxInt, 0, api.ErrLong}, {math.MaxInt64, math.MaxInt, math.MaxInt, 0},
	} {
		b := Uints(c.u)
		r := New(b)
		v := r.Count(c.most)
		left := len(b)
		if c.err == api.OK {
			left = 0
		}
		if v != c.want || r.Err() != c.err || r.Left() != left {
			t.Error(i, v, r.Err(), r.Left())
		}
	}
	for i, c := range []struct {
		b    []byte
		most int
		want string
		err  api.Errno
		left int
	}{
		{[]byte{3, 97, 98}, 9, "", api.ErrEnd, 3}, {[]byte{2, 97, 98, 99}, 9, "ab", 0, 1}, {[]byte{2, 97, 98}, 1, "", api.ErrLong, 3},
		{[]byte{9}, 3, "", api.ErrLong, 1}, {[]byte{0, 7}, -3, "", 0, 1}, {[]byte{1, 7}, -3, "", api.ErrLong, 2},
		{Uints(math.MaxInt64), math.MaxInt, "", api.ErrEnd, 9},
	} {
		r := New(c.b)
		if s := r.Text(c.most); s != c.want || r.Err() != c.err || r.Left() != c.left {
			t.Error(i, s, r.Err(), r.Left())
		}
	}
}

func TestP6_3State(t *testing.T) {
	b := []byte{1, 3, 97, 98}
	r := New(b)
	b[0], b[1] = 9, 9
	if r.Left() != 4 || r.Uint() != 1 || r.Left() != 3 || r.Text(9) != "" || r.Err() != api.ErrEnd {
		t.Error(r.Left(), r.Err())
	}
	if r.Uint() != 0 || r.Int() != 0 || r.Text(9) != "" || r.Count(9) != 0 || r.Left() != 3 || r.Err() != api.ErrEnd || r.End() != api.ErrEnd {
		t.Error("after an error", r.Left(), r.Err())
	}
	r = New([]byte{1, 2})
	if r.Uint() != 1 || r.End() != api.ErrForm || r.Err() != api.ErrForm || r.Left() != 1 || r.Uint() != 0 || r.Left() != 1 {
		t.Error("End", r.Err(), r.Left())
	}
	r = New(nil)
	if r.End() != api.OK || r.Uint() != 0 || r.End() != api.ErrEnd {
		t.Error("empty")
	}
}

func TestP6_3ArgumentsKept(t *testing.T) {
	b := []byte{0x80, 0, 1}
	r := New(b)
	r.Uint()
	if !bytes.Equal(b, []byte{0x80, 0, 1}) {
		t.Error(b)
	}
	x, y := Uints(5), Uints(5)
	x[0] = 7
	if y[0] != 5 {
		t.Error("shared")
	}
}
