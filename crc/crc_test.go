package crc

import (
	"bytes"
	"hash/crc32"
	"math/rand"
	"testing"

	"noonmark/api"
)

func noise(r *rand.Rand, n int) []byte {
	b := make([]byte, n)
	r.Read(b)
	return b
}

func TestP7_1Sum(t *testing.T) {
	if Sum([]byte("123456789")) != 0xCBF43926 || Sum([]byte("1234"), nil, []byte("56789")) != 0xCBF43926 {
		t.Error("123456789")
	}
	if Sum() != 0 || Sum(nil, []byte{}) != 0 || Sum([]byte{0}) != 0xD202EF8D {
		t.Error("empty")
	}
	r := rand.New(rand.NewSource(1))
	for n := range 70 {
		b := noise(r, n)
		if Sum(b) != crc32.ChecksumIEEE(b) || Sum(b[:n/2], b[n/2:]) != Sum(b) {
			t.Error(b)
		}
	}
}

func TestP7_1SealOpen(t *testing.T) {
	if b := Seal([]byte("1234"), []byte("56789")); !bytes.Equal(b, []byte("123456789\x26\x39\xf4\xcb")) {
		t.Error(b)
	}
	if b := Seal(); !bytes.Equal(b, []byte{0, 0, 0, 0}) {
		t.Error(b)
	}
	r := rand.New(rand.NewSource(2))
	for n := range 40 {
		data := noise(r, n)
		sealed := Seal(data)
		if b, e := Open(sealed); e != api.OK || !bytes.Equal(b, data) {
			t.Error(n, b, e)
		}
		for i := range 8 * len(sealed) {
			sealed[i/8] ^= 1 << (i % 8)
			if b, e := Open(sealed); e != api.ErrSum || len(b) != 0 {
				t.Error(n, i, b, e)
			}
			sealed[i/8] ^= 1 << (i % 8)
		}
	}
	for n := range 4 {
		if b, e := Open(make([]byte, n)); e != api.ErrEnd || len(b) != 0 {
			t.Error(n, b, e)
		}
	}
	if b, e := Open([]byte{0, 0, 0, 0}); e != api.OK || len(b) != 0 {
		t.Error(b, e)
	}
	if b, e := Open([]byte{0, 0, 0, 1}); e != api.ErrSum || len(b) != 0 {
		t.Error(b, e)
	}
}

func TestP7_2Bursts(t *testing.T) {
	r := rand.New(rand.NewSource(3))
	for range 20000 {
		b := noise(r, 1+r.Intn(12))
		sum := Sum(b)
		first := r.Intn(8 * len(b))
		flip := r.Uint32() | 1
		for i := range 32 {
			if at := first + i; flip>>i&1 == 1 && at < 8*len(b) {
				b[at/8] ^= 1 << (at % 8)
			}
		}
		if Sum(b) == sum {
			t.Fatal(b, first, flip)
		}
	}
}

func TestP7_2Memory(t *testing.T) {
	room := make([]byte, 20)
	b := room[:4]
	s := Seal(b)
	s[0] = 9
	if !bytes.Equal(room, make([]byte, 20)) {
		t.Error("argument", room)
	}
	sealed := Seal([]byte("abc"))
	data, _ := Open(sealed)
	data[0] = 'x'
	_ = append(data, 'y')
	if !bytes.Equal(sealed, Seal([]byte("abc"))) {
		t.Error("shared", sealed)
	}
}
