package reel

import (
	"bytes"
	"math"
	"math/rand"
	"slices"
	"testing"

	"noonmark/api"
	"noonmark/code"
	"noonmark/crc"
	"noonmark/disk"
)

const big = 1 << 18

func bytesOf(t *testing.T, kind int, data []byte) []byte {
	t.Helper()
	b, e := Bytes(Record{kind, data})
	if e != api.OK {
		t.Fatal(e)
	}
	return b
}

func same(a, b []Record) bool {
	return slices.EqualFunc(a, b, func(x, y Record) bool { return x.Kind == y.Kind && bytes.Equal(x.Data, y.Data) })
}

func TestP11_1Bytes(t *testing.T) {
	if b := bytesOf(t, 1, []byte("ab")); !bytes.Equal(b, append([]byte{7}, crc.Seal([]byte{1, 'a', 'b'})...)) {
		t.Error(b)
	}
	if b := bytesOf(t, 255, nil); !bytes.Equal(b, append([]byte{6}, crc.Seal([]byte{255, 1})...)) {
		t.Error(b)
	}
	if b := bytesOf(t, 0, make([]byte, big)); len(b) != big+8 {
		t.Error(len(b))
	}
	for _, c := range []struct {
		kind, size int
		err        api.Errno
	}{{-1, 0, api.ErrRange}, {256, 0, api.ErrRange}, {math.MinInt, big + 1, api.ErrRange}, {5, big + 1, api.ErrLong}} {
		if b, e := Bytes(Record{c.kind, make([]byte, c.size)}); len(b) != 0 || e != c.err {
			t.Error(c, len(b), e)
		}
	}
}

func TestP11_1Scan(t *testing.T) {
	list := []Record{{1, []byte("ab")}, {0, nil}, {255, []byte{0, 0}}, {128, bytes.Repeat([]byte{9}, 300)}, {7, make([]byte, big)}}
	var b []byte
	var ends []int
	for _, r := range list {
		b = append(b, bytesOf(t, r.Kind, r.Data)...)
		ends = append(ends, len(b))
	}
	if got, n := Scan(b); !same(got, list) || n != len(b) {
		t.Error(len(got), n)
	}
	for cut := range ends[3] + 5 {
		whole := 0
		for whole < len(ends) && ends[whole] <= cut {
			whole++
		}
		at := 0
		if whole > 0 {
			at = ends[whole-1]
		}
		if got, n := Scan(b[:cut]); !same(got, list[:whole]) || n != at {
			t.Fatal(cut, len(got), n)
		}
	}
	if got, n := Scan(nil); len(got) != 0 || n != 0 {
		t.Error(got, n)
	}
}

// record is bytes with a length ahead of them.
func record(sealed []byte) []byte { return append(code.Uints(uint64(len(sealed))), sealed...) }

func TestP11_1ScanWrong(t *testing.T) {
	good := bytesOf(t, 1, []byte("ab"))
	for i, bad := range [][]byte{
		{0}, {3, 1, 2, 3}, {4, 0, 0, 0, 0}, {0x87, 0x00}, {0x80}, bytes.Repeat([]byte{0xff}, 12),
		code.Uints(math.MaxUint64), append(code.Uints(1<<63), good...),
		record(crc.Seal(code.Uints(256))), record(crc.Seal([]byte{0x81, 0, 5})), record(crc.Seal([]byte{0x80})),
		record(crc.Seal([]byte{1}, make([]byte, big+1))), append([]byte{0x87, 0}, good[1:]...),
		record(append(crc.Seal([]byte{1, 2}), 0)),
	} {
		b := slices.Concat(good, bad, good)
		if got, n := Scan(b); !same(got, []Record{{1, []byte("ab")}}) || n != len(good) {
			t.Error(i, got, n)
		}
	}
	for i := range len(good) * 8 {
		b := bytes.Clone(good)
		b[i/8] ^= 1 << (i % 8)
		if got, n := Scan(b); len(got) != 0 || n != 0 {
			t.Error(i, got, n)
		}
	}
}

func TestP11_2Open(t *testing.T) {
	for _, most := range []int{63, 0, -1, 1<<20 + 1, math.MaxInt, math.MinInt} {
		if r, list, e := Open(disk.New(), most); r != nil || len(list) != 0 || e != api.ErrRange {
			t.Error(most, r, list, e)
		}
	}
	full := disk.New()
	full.Append(1<<31-1, []byte{1})
	if r, list, e := Open(full, 64); r != nil || len(list) != 0 || e != api.ErrFull {
		t.Error(r, list, e)
	}
	if _, _, e := Open(full, 63); e != api.ErrRange {
		t.Error(e)
	}
	for _, most := range []int{64, 1 << 20} {
		if r, list, e := Open(disk.New(), most); e != api.OK || len(list) != 0 || r.Next() != 0 || r.Synced() != 0 || r.Segment() != 0 {
			t.Error(most, list, e)
		}
	}
	d := disk.New()
	d.Append(10, bytesOf(t, 3, []byte("c")))
	d.Append(2, bytesOf(t, 1, []byte("a")), bytesOf(t, 2, []byte("b")), []byte{9, 9})
	d.Append(5, []byte("none"))
	r, list, e := Open(d, 64)
	if e != api.OK || !same(list, []Record{{1, []byte("a")}, {2, []byte("b")}, {3, []byte("c")}}) || r.Next() != 3 || r.Synced() != 3 || r.Segment() != 11 {
		t.Error(list, e, r.Next(), r.Synced(), r.Segment())
	}
}

func TestP11_3Append(t *testing.T) {
	d := disk.New()
	r, _, _ := Open(d, 64)
	var want []Record
	segments := []int{}
	for i := range 6 {
		data := bytes.Repeat([]byte{byte(i)}, []int{20, 22, 40, 200, 0, 58}[i])
		n, e := r.Append(i, data[:len(data)/2], nil, data[len(data)/2:])
		if n != i || e != api.OK || r.Next() != i+1 || r.Synced() != 0 {
			t.Error(i, n, e, r.Next())
		}
		want = append(want, Record{i, data})
		segments = append(segments, r.Segment())
	}
	// 26 and 28 bytes are 54; 46 more are too many; 207 stand alone; 6 need a segment; 64 too.
	if !slices.Equal(segments, []int{0, 0, 1, 2, 3, 4}) || !slices.Equal(d.Files(), []int{0, 1, 2, 3, 4}) {
		t.Error(segments, d.Files())
	}
	r.Sync()
	if r.Synced() != 6 || d.Pending() != 0 {
		t.Error(r.Synced())
	}
	if _, list, _ := Open(d, 64); !same(list, want) {
		t.Error(list)
	}
}

func TestP11_3Edges(t *testing.T) {
	d := disk.New()
	r, _, _ := Open(d, 64)
	// Two records of 32 bytes fill a segment just so.
	for i, want := range []int{0, 0, 1, 1, 2} {
		if r.Append(1, make([]byte, 26)); r.Segment() != want {
			t.Error(i, r.Segment())
		}
	}
	for _, c := range []struct {
		kind, size int
		err        api.Errno
	}{{-1, 0, api.ErrRange}, {256, big + 1, api.ErrRange}, {1, big + 1, api.ErrLong}} {
		size := d.Size()
		if n, e := r.Append(c.kind, make([]byte, c.size)); n != -1 || e != c.err || r.Next() != 5 || r.Segment() != 2 || d.Size() != size {
			t.Error(c, n, e)
		}
	}
	if n, e := r.Append(1, make([]byte, big), []byte{1}); n != -1 || e != api.ErrLong {
		t.Error(n, e)
	}
	if n, e := r.Append(0); n != 5 || e != api.OK {
		t.Error(n, e)
	}
}

func TestP11_3LastSegment(t *testing.T) {
	d := disk.New()
	d.Append(1<<31-2, []byte("x"))
	r, _, e := Open(d, 64)
	if e != api.OK || r.Segment() != 1<<31-1 {
		t.Fatal(e)
	}
	if n, e := r.Append(1, make([]byte, 100)); n != 0 || e != api.OK {
		t.Error(n, e)
	}
	size := d.Size()
	if n, e := r.Append(1); n != -1 || e != api.ErrFull || r.Next() != 1 || d.Size() != size {
		t.Error(n, e)
	}
	if n, e := r.Turn(); n != -1 || e != api.ErrFull || r.Segment() != 1<<31-1 {
		t.Error(n, e)
	}
}

func TestP11_3DiskBehindItsBack(t *testing.T) {
	d := disk.New()
	r, _, _ := Open(d, 64)
	r.Append(1, make([]byte, 50))
	d.Crash(0)
	if r.Append(1, make([]byte, 50)); r.Segment() != 0 {
		t.Error("the segment has no bytes any more", r.Segment())
	}
	r.Sync()
	r.Drop(1)
	if r.Append(1, make([]byte, 50)); r.Segment() != 0 {
		t.Error("the segment is gone", r.Segment())
	}
	d.Append(0, make([]byte, 5))
	if r.Append(1); r.Segment() != 1 {
		t.Error("the segment is longer", r.Segment())
	}
}

func TestP11_4TurnDrop(t *testing.T) {
	d := disk.New()
	r, _, _ := Open(d, 64)
	for i := range 4 {
		r.Append(1, []byte{byte(i)})
		if n, e := r.Turn(); n != i+1 || e != api.OK || r.Segment() != n {
			t.Error(i, n, e)
		}
	}
	if e := r.Drop(2); e != api.ErrState || len(d.Files()) != 4 {
		t.Error(e, d.Files())
	}
	r.Sync()
	if e := r.Drop(2); e != api.OK || !slices.Equal(d.Files(), []int{2, 3}) || r.Next() != 4 {
		t.Error(e, d.Files())
	}
	if r.Drop(-5) != api.OK || r.Drop(2) != api.OK || len(d.Files()) != 2 {
		t.Error(d.Files())
	}
	if e := r.Drop(math.MaxInt); e != api.OK || len(d.Files()) != 0 {
		t.Error(e, d.Files())
	}
}

func TestP11_4Memory(t *testing.T) {
	d := disk.New()
	r, _, _ := Open(d, 64)
	data := []byte("abc")
	r.Append(1, data)
	data[0] = 'x'
	_, list, _ := Open(d, 64)
	if string(list[0].Data) != "abc" {
		t.Error(list)
	}
	b := bytesOf(t, 1, []byte("abc"))
	got, _ := Scan(b)
	b[2] = 'y'
	if string(got[0].Data) != "abc" {
		t.Error(got)
	}
}

func TestP11_4Synced(t *testing.T) {
	rnd := rand.New(rand.NewSource(1))
	for range 200 {
		d := disk.New()
		r, _, _ := Open(d, 64)
		var want []Record
		for range 20 {
			data := make([]byte, rnd.Intn(40))
			r.Append(1, data)
			want = append(want, Record{1, data})
			if rnd.Intn(4) == 0 {
				r.Sync()
			}
		}
		least := r.Synced()
		d.Crash(rnd.Intn(200))
		_, list, _ := Open(d, 64)
		if len(list) < least || !same(list, want[:len(list)]) {
			t.Fatal(len(list), least)
		}
	}
}
