package book

import (
	"bytes"
	"math"
	"math/rand"
	"slices"
	"testing"

	"noonmark/api"
	"noonmark/disk"
	"noonmark/reel"
)

func same(a, b []reel.Record) bool {
	return slices.EqualFunc(a, b, func(x, y reel.Record) bool { return x.Kind == y.Kind && bytes.Equal(x.Data, y.Data) })
}

func opened(t *testing.T, d *disk.Disk) (*Book, Found) {
	t.Helper()
	b, f, e := Open(d, 64)
	if e != api.OK {
		t.Fatal(e)
	}
	return b, f
}

func TestP12_1Open(t *testing.T) {
	full := disk.New()
	full.Append(1<<31-1, []byte{1})
	for i, c := range []struct {
		d    *disk.Disk
		most int
		err  api.Errno
	}{{disk.New(), 63, api.ErrRange}, {full, 64, api.ErrFull}, {full, 1<<20 + 1, api.ErrRange}} {
		if b, f, e := Open(c.d, c.most); b != nil || f.Has || f.State != nil || f.List != nil || e != c.err {
			t.Error(i, b, f, e)
		}
	}
	d := disk.New()
	b, f := opened(t, d)
	if f.Has || len(f.State) != 0 || len(f.List) != 0 {
		t.Error(f)
	}
	b.Append(1, []byte("a"))
	b.Append(2, []byte("b"))
	if _, f := opened(t, d.Clone()); f.Has || len(f.State) != 0 || !same(f.List, []reel.Record{{Kind: 1, Data: []byte("a")}, {Kind: 2, Data: []byte("b")}}) {
		t.Error(f)
	}
	b.Save([]byte("one"))
	b.Append(3, []byte("c"))
	b.Save()
	if _, f := opened(t, d.Clone()); !f.Has || len(f.State) != 0 || len(f.List) != 0 {
		t.Error(f)
	}
	b.Append(4)
	b.Save([]byte("t"), nil, []byte("wo"))
	b.Append(5, []byte("d"))
	b.Append(6, []byte("e"))
	if _, f := opened(t, d); !f.Has || string(f.State) != "two" || !same(f.List, []reel.Record{{Kind: 5, Data: []byte("d")}, {Kind: 6, Data: []byte("e")}}) {
		t.Error(f)
	}
}

func TestP12_2Append(t *testing.T) {
	b, _ := opened(t, disk.New())
	for i, c := range []struct {
		kind, size, want int
		err              api.Errno
	}{
		{0, 1, -1, api.ErrRange}, {-1, 1, -1, api.ErrRange}, {math.MinInt, 1, -1, api.ErrRange}, {256, 1, -1, api.ErrRange}, {0, 1<<18 + 1, -1, api.ErrRange},
		{1, 1<<18 + 1, -1, api.ErrLong}, {1, 1 << 18, 0, 0}, {255, 0, 1, 0},
	} {
		if n, e := b.Append(c.kind, make([]byte, c.size)); n != c.want || e != c.err {
			t.Error(i, n, e)
		}
	}
}

func TestP12_2Save(t *testing.T) {
	d := disk.New()
	b, _ := opened(t, d)
	b.Append(1)
	if n, e := b.Save(make([]byte, 1<<18), []byte{1}); n != -1 || e != api.ErrLong || b.Segment() != 0 || b.Next() != 1 {
		t.Error(n, e)
	}
	if n, e := b.Save(make([]byte, 1<<18)); n != 1 || e != api.OK || b.Segment() != 1 || b.Next() != 2 {
		t.Error(n, e, b.Segment())
	}
	if n, e := b.Save([]byte("x")); n != 2 || e != api.OK || b.Segment() != 2 || !slices.Equal(d.Files(), []int{0, 1, 2}) {
		t.Error(n, e, d.Files())
	}
	end := disk.New()
	end.Append(1<<31-2, []byte{1})
	b, _ = opened(t, end)
	if n, e := b.Save(make([]byte, 1<<18+1)); n != -1 || e != api.ErrLong {
		t.Error(n, e)
	}
	if n, e := b.Save([]byte("x")); n != -1 || e != api.ErrFull || end.Size() != 1 || b.Next() != 0 || b.Trim() != api.ErrNone {
		t.Error(n, e, end.Size())
	}
}

func TestP12_2Trim(t *testing.T) {
	d := disk.New()
	b, _ := opened(t, d)
	b.Append(1, []byte("a"))
	if e := b.Trim(); e != api.ErrNone {
		t.Error(e)
	}
	b.Save([]byte("A"))
	if e := b.Trim(); e != api.ErrState || len(d.Files()) != 2 {
		t.Error(e)
	}
	b.Append(1, []byte("b"))
	b.Sync()
	b.Append(1, []byte("c"))
	if e := b.Trim(); e != api.ErrState || len(d.Files()) != 2 {
		t.Error("pending", e)
	}
	b.Sync()
	if e := b.Trim(); e != api.OK || !slices.Equal(d.Files(), []int{1}) {
		t.Error(e, d.Files())
	}
	if e := b.Trim(); e != api.OK {
		t.Error("again", e)
	}
	if _, f := opened(t, d.Clone()); string(f.State) != "A" || !same(f.List, []reel.Record{{Kind: 1, Data: []byte("b")}, {Kind: 1, Data: []byte("c")}}) {
		t.Error(f)
	}
	b, _ = opened(t, d)
	if e := b.Trim(); e != api.ErrNone || len(d.Files()) != 1 {
		t.Error("a checkpoint that was found", e)
	}
	// A checkpoint that isn't synced, though an elder one is.
	b.Save([]byte("B"))
	b.Sync()
	b.Save([]byte("C"))
	if e := b.Trim(); e != api.ErrState {
		t.Error(e)
	}
	// The disk is synced, and yet the book didn't sync it.
	d.Sync()
	if e := b.Trim(); e != api.ErrState {
		t.Error(e)
	}
}

// check holds a disk's content against all records that were appended, checkpoints among them.
func check(t *testing.T, d *disk.Disk, all []reel.Record, synced int) {
	t.Helper()
	_, f := opened(t, d)
	for end := synced; end <= len(all); end++ {
		first, state, has := 0, []byte(nil), false
		for i, r := range all[:end] {
			if r.Kind == KState {
				first, state, has = i+1, r.Data, true
			}
		}
		if has == f.Has && bytes.Equal(state, f.State) && same(f.List, all[first:end]) {
			return
		}
	}
	t.Fatal("no prefix", f, len(all), synced)
}

func TestP12_3Crashes(t *testing.T) {
	r := rand.New(rand.NewSource(1))
	for range 400 {
		d := disk.New()
		b, _ := opened(t, d)
		var all []reel.Record
		synced := 0
		for range 30 {
			data := []byte{byte(len(all)), byte(r.Intn(256))}
			data = append(data, make([]byte, r.Intn(40))...)
			switch r.Intn(6) {
			case 0:
				b.Save(data[:1], data[1:])
				all = append(all, reel.Record{Kind: KState, Data: data})
			case 1:
				b.Sync()
				synced = len(all)
			case 2:
				b.Trim()
			default:
				b.Append(1+r.Intn(5), data)
				all = append(all, reel.Record{})
				_, list, _ := reel.Open(d.Clone(), 64)
				all[len(all)-1] = list[len(list)-1]
			}
			c := d.Clone()
			c.Crash(r.Intn(c.Pending() + 2))
			check(t, c, all, synced)
		}
	}
}

func TestP12_3Memory(t *testing.T) {
	d := disk.New()
	b, _ := opened(t, d)
	data, state := []byte("data"), []byte("state")
	b.Append(1, data)
	b.Save(state)
	b.Append(1, data)
	data[0], state[0] = 'x', 'x'
	_, f := opened(t, d)
	if string(f.State) != "state" || string(f.List[0].Data) != "data" {
		t.Error(f)
	}
}
