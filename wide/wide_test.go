package wide

import (
	"bytes"
	"math"
	"math/big"
	"math/rand"
	"strings"
	"testing"

	"noonmark/api"
)

// numbers are those at which something may wrap, and some between them.
func numbers() []Int {
	var list []Int
	halves := []int64{0, 1, -1, 2, 9, 10, math.MaxInt64, math.MinInt64, math.MinInt64 + 1, math.MaxInt64 - 1}
	for _, hi := range halves {
		for _, lo := range halves {
			list = append(list, Int{hi, uint64(lo)})
		}
	}
	r := rand.New(rand.NewSource(1))
	for range 30 {
		list = append(list, Int{int64(r.Uint64()), r.Uint64()})
	}
	return list
}

func longs() []int64 {
	var list []int64
	for _, a := range numbers() {
		list = append(list, a.Hi, int64(a.Lo))
	}
	return list
}

func exact(a Int) *big.Int {
	x := new(big.Int).Lsh(big.NewInt(a.Hi), 64)
	return x.Add(x, new(big.Int).SetUint64(a.Lo))
}

func edge() *big.Int { return new(big.Int).Lsh(big.NewInt(1), 127) }

// fits tells whether x is from -2^127 to 2^127 - 1.
func fits(x *big.Int) bool {
	return x.Cmp(edge()) < 0 && x.Cmp(new(big.Int).Neg(edge())) >= 0
}

func checked(t *testing.T, name string, got Int, e api.Errno, want *big.Int) {
	t.Helper()
	if !fits(want) {
		if got != (Int{}) || e != api.ErrOver {
			t.Fatal(name, got, e, want)
		}
	} else if e != api.OK || exact(got).Cmp(want) != 0 {
		t.Fatal(name, got, e, want)
	}
}

func TestP2_1AddSubCmp(t *testing.T) {
	for _, a := range numbers() {
		for _, b := range numbers() {
			x, y := exact(a), exact(b)
			s, e := Add(a, b)
			checked(t, "Add", s, e, new(big.Int).Add(x, y))
			s, e = Sub(a, b)
			checked(t, "Sub", s, e, new(big.Int).Sub(x, y))
			if Cmp(a, b) != x.Cmp(y) {
				t.Fatal("Cmp", a, b)
			}
		}
	}
}

func TestP2_1Longs(t *testing.T) {
	all := longs()
	for _, a := range all {
		if exact(Of(a)).Cmp(big.NewInt(a)) != 0 {
			t.Fatal("Of", a)
		}
		if v, ok := Long(Of(a)); v != a || !ok {
			t.Fatal("Long", a, v, ok)
		}
		for _, b := range all {
			if exact(Times(a, b)).Cmp(new(big.Int).Mul(big.NewInt(a), big.NewInt(b))) != 0 {
				t.Fatal("Times", a, b)
			}
		}
	}
	for _, a := range numbers() {
		v, ok := Long(a)
		if in := exact(a).IsInt64(); ok != in || in && v != exact(a).Int64() || !in && v != 0 {
			t.Fatal("Long", a, v, ok)
		}
	}
	if Times(1<<62, -4) != (Int{-1, 0}) {
		t.Error("Times")
	}
}

func TestP2_1Sum(t *testing.T) {
	if Sum() != (Int{}) {
		t.Error("empty")
	}
	all, sum := longs(), new(big.Int)
	for i, v := range all {
		sum.Add(sum, big.NewInt(v))
		if exact(Sum(all[:i+1]...)).Cmp(sum) != 0 {
			t.Fatal(i)
		}
	}
	if s := Sum(math.MinInt64, math.MinInt64, math.MinInt64); s.Hi != -2 || s.Lo != 1<<63 {
		t.Error(s)
	}
}

func TestP2_2Text(t *testing.T) {
	for _, a := range numbers() {
		s := Text(a)
		if s != exact(a).String() {
			t.Fatal(a, s)
		}
		if b, ok := Parse(s); b != a || !ok {
			t.Fatal(s, b, ok)
		}
	}
	for k := range 39 {
		x := new(big.Int).Exp(big.NewInt(10), big.NewInt(int64(k)), nil)
		for _, s := range []string{x.String(), "-" + x.String(), new(big.Int).Sub(x, big.NewInt(1)).String()} {
			if a, ok := Parse(s); !ok || exact(a).String() != s {
				t.Fatal(s, a, ok)
			}
		}
	}
}

func TestP2_2ParseWrong(t *testing.T) {
	low := new(big.Int).Neg(edge())
	for _, s := range []string{
		"", "-", "+1", "-0", "00", "01", "-01", " 1", "1 ", "1\n", "0x1", "1_0", "--1", "1-", "1.0", "１", "\x00",
		edge().String(), new(big.Int).Sub(low, big.NewInt(1)).String(),
		new(big.Int).Lsh(big.NewInt(1), 128).String(), "-" + new(big.Int).Lsh(big.NewInt(1), 128).String(),
		new(big.Int).Add(new(big.Int).Lsh(big.NewInt(1), 128), big.NewInt(5)).String(),
		strings.Repeat("9", 39), strings.Repeat("9", 40), strings.Repeat("1", 1000), strings.Repeat("0", 40),
	} {
		if a, ok := Parse(s); ok || a != (Int{}) {
			t.Errorf("%q %v %v", s, a, ok)
		}
	}
	if a, ok := Parse(low.String()); !ok || a != (Int{math.MinInt64, 0}) {
		t.Error(a, ok)
	}
}

func TestP2_2Bytes(t *testing.T) {
	for _, a := range numbers() {
		b := Bytes(a)
		x := exact(a)
		if x.Sign() < 0 {
			x.Add(x, new(big.Int).Lsh(big.NewInt(1), 128))
		}
		if !bytes.Equal(b, x.FillBytes(make([]byte, 16))) {
			t.Fatal(a, b)
		}
		if c, ok := Back(b); c != a || !ok {
			t.Fatal(a, c, ok)
		}
	}
	for _, n := range []int{0, 1, 15, 17, 32} {
		if c, ok := Back(make([]byte, n)); ok || c != (Int{}) {
			t.Error(n, c, ok)
		}
	}
}
