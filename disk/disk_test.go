package disk

import (
	"bytes"
	"math"
	"math/rand"
	"slices"
	"testing"

	"noonmark/api"
)

const last = 1<<31 - 1

// model is a disk, byte by byte.
type model struct {
	synced  map[int][]byte
	pending []piece
}

type piece struct {
	file int
	c    byte
}

func (m *model) read(file int) []byte {
	b := bytes.Clone(m.synced[file])
	for _, p := range m.pending {
		if p.file == file {
			b = append(b, p.c)
		}
	}
	return b
}

func (m *model) crash(keep int) {
	m.pending = m.pending[:min(len(m.pending), max(0, keep))]
	m.sync()
}

func (m *model) sync() {
	for _, p := range m.pending {
		m.synced[p.file] = append(m.synced[p.file], p.c)
	}
	m.pending = nil
}

func (m *model) check(t *testing.T, d *Disk) {
	t.Helper()
	var files []int
	size := 0
	for file := range 6 {
		want := m.read(file)
		b, e := d.Read(file)
		if len(want) > 0 {
			files = append(files, file)
			size += len(want)
		}
		if !bytes.Equal(b, want) || (e == api.OK) != (len(want) > 0) || e != api.OK && e != api.ErrDisk {
			t.Fatal(file, b, e, want)
		}
	}
	if !slices.Equal(d.Files(), files) || d.Size() != size || d.Pending() != len(m.pending) {
		t.Fatal(d.Files(), files, d.Size(), size, d.Pending(), len(m.pending))
	}
}

func (m *model) remove(file int) api.Errno {
	if len(m.read(file)) == 0 {
		return api.ErrDisk
	}
	if len(m.pending) > 0 {
		return api.ErrState
	}
	delete(m.synced, file)
	return api.OK
}

func TestP10_1Random(t *testing.T) {
	r := rand.New(rand.NewSource(1))
	for range 300 {
		d, m := New(), &model{synced: map[int][]byte{}}
		for range 60 {
			switch r.Intn(8) {
			default:
				file := r.Intn(5)
				b := make([]byte, r.Intn(5))
				r.Read(b)
				half := len(b) / 2
				if e := d.Append(file, b[:half], nil, b[half:]); e != api.OK {
					t.Fatal(e)
				}
				for _, c := range b {
					m.pending = append(m.pending, piece{file, c})
				}
			case 0:
				d.Sync()
				m.sync()
			case 1:
				keep := r.Intn(30) - 4
				d.Crash(keep)
				m.crash(keep)
			case 2:
				file := r.Intn(6)
				if e := d.Delete(file); e != m.remove(file) {
					t.Fatal(e)
				}
			case 3:
				c := d.Clone()
				d.Append(1, []byte("zzz"))
				d.Crash(1)
				d = c
			}
			m.check(t, d)
		}
	}
}

func TestP10_1Errors(t *testing.T) {
	d := New()
	for _, file := range []int{-1, last + 1, math.MinInt, math.MaxInt} {
		if d.Append(file, []byte("a")) != api.ErrRange || d.Delete(file) != api.ErrDisk {
			t.Error(file)
		}
		if b, e := d.Read(file); len(b) != 0 || e != api.ErrDisk {
			t.Error(file, b, e)
		}
	}
	if d.Append(last, nil, []byte{}) != api.OK || len(d.Files()) != 0 || d.Append(0) != api.OK || d.Size() != 0 {
		t.Error("no bytes")
	}
	if d.Append(last, []byte("a")) != api.OK || !slices.Equal(d.Files(), []int{last}) {
		t.Error("last")
	}
	if d.Delete(last) != api.ErrState || d.Delete(0) != api.ErrDisk {
		t.Error("pending")
	}
	d.Sync()
	if d.Delete(last) != api.OK || d.Delete(last) != api.ErrDisk || d.Size() != 0 || len(d.Files()) != 0 {
		t.Error("delete")
	}
}

func TestP10_2Crash(t *testing.T) {
	d := New()
	d.Append(1, []byte("ab"))
	d.Append(0, []byte("c"))
	d.Crash(2)
	if b, e := d.Read(1); string(b) != "ab" || e != api.OK || !slices.Equal(d.Files(), []int{1}) {
		t.Error(b, e, d.Files())
	}
	for i, c := range []struct {
		keep      int
		one, zero string
	}{{-1, "ab", ""}, {math.MinInt, "ab", ""}, {0, "ab", ""}, {1, "abd", ""}, {2, "abd", "e"}, {3, "abdf", "e"}, {4, "abdf", "e"}, {math.MaxInt, "abdf", "e"}} {
		k := d.Clone()
		k.Append(1, []byte("d"))
		k.Append(0, []byte("e"))
		k.Append(1, []byte("f"))
		k.Crash(c.keep)
		one, _ := k.Read(1)
		zero, _ := k.Read(0)
		if string(one) != c.one || string(zero) != c.zero || k.Pending() != 0 || k.Size() != len(c.one)+len(c.zero) {
			t.Error(i, string(one), string(zero), k.Pending(), k.Size())
		}
	}
}

func TestP10_2Memory(t *testing.T) {
	d, b := New(), []byte("abc")
	d.Append(1, b)
	b[0] = 'x'
	got, _ := d.Read(1)
	if string(got) != "abc" {
		t.Error(string(got))
	}
	got[1] = 'y'
	_ = append(got, 'z')
	c := d.Clone()
	c.Append(1, []byte("d"))
	d.Append(1, []byte("e"))
	one, _ := d.Read(1)
	two, _ := c.Read(1)
	if string(one) != "abce" || string(two) != "abcd" {
		t.Error(string(one), string(two))
	}
	d.Crash(3)
	if c.Pending() != 4 || d.Pending() != 0 {
		t.Error(c.Pending(), d.Pending())
	}
}
