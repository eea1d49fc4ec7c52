package safe

import (
	"math"
	"math/big"
	"math/rand"
	"testing"

	"noonmark/api"
)

const (
	least = math.MinInt64
	most  = math.MaxInt64
)

// numbers are those at which something may wrap, and some between them.
func numbers() []int64 {
	list := []int64{0, 1, -1, 2, -2, 3, -3, 7, -7, 10, most, most - 1, least, least + 1}
	for _, k := range []uint{31, 32, 61, 62} {
		list = append(list, 1<<k, 1<<k-1, 1<<k+1, -1<<k, -1<<k-1, -1<<k+1)
	}
	r := rand.New(rand.NewSource(1))
	for range 12 {
		list = append(list, int64(r.Uint64()))
	}
	return list
}

// fit is what a function with a checked result must return for x.
func fit(x *big.Int) (int64, api.Errno) {
	if !x.IsInt64() {
		return 0, api.ErrOver
	}
	return x.Int64(), api.OK
}

func TestP1_1TwoNumbers(t *testing.T) {
	for _, a := range numbers() {
		for _, b := range numbers() {
			x, y := big.NewInt(a), big.NewInt(b)
			for _, c := range []struct {
				name string
				call func(a, b int64) (int64, api.Errno)
				want *big.Int
			}{
				{"Add", Add, new(big.Int).Add(x, y)},
				{"Sub", Sub, new(big.Int).Sub(x, y)},
				{"Mul", Mul, new(big.Int).Mul(x, y)},
			} {
				v, e := c.call(a, b)
				if want, err := fit(c.want); v != want || e != err {
					t.Fatal(c.name, a, b, v, e)
				}
			}
		}
	}
}

func TestP1_1Sum(t *testing.T) {
	for i, c := range []struct {
		list []int64
		want int64
		err  api.Errno
	}{
		{nil, 0, 0},
		{[]int64{}, 0, 0},
		{[]int64{1 << 62, 1 << 62, -1}, most, 0},
		{[]int64{1 << 62, 1 << 62}, 0, api.ErrOver},
		{[]int64{most, most, most, least, least, least}, -3, 0},
		{[]int64{least, least, most, most, 1}, -1, 0},
		{[]int64{least, -1}, 0, api.ErrOver},
		{[]int64{least, -1, 1}, least, 0},
		{[]int64{most, 1, -1}, most, 0},
	} {
		if v, e := Sum(c.list...); v != c.want || e != c.err {
			t.Error(i, v, e)
		}
	}
	all := numbers()
	r := rand.New(rand.NewSource(2))
	for range 2000 {
		list, sum := make([]int64, r.Intn(6)), new(big.Int)
		for i := range list {
			list[i] = all[r.Intn(len(all))]
			sum.Add(sum, big.NewInt(list[i]))
		}
		v, e := Sum(list...)
		if want, err := fit(sum); v != want || e != err {
			t.Fatal(list, v, e)
		}
	}
}

// rounded is a * b / c by big integers.
func rounded(a, b, c int64, up bool) *big.Int {
	q, m := new(big.Int).DivMod(new(big.Int).Mul(big.NewInt(a), big.NewInt(b)), big.NewInt(c), new(big.Int))
	if up && m.Sign() != 0 {
		q.Add(q, big.NewInt(1))
	}
	return q
}

func TestP1_2Ratio(t *testing.T) {
	for _, a := range numbers() {
		for _, b := range numbers() {
			for _, c := range numbers() {
				for _, up := range []bool{false, true} {
					want, err := int64(0), api.ErrRange
					if c >= 1 {
						want, err = fit(rounded(a, b, c, up))
					}
					if v, e := Ratio(a, b, c, up); v != want || e != err {
						t.Fatal(a, b, c, up, v, e)
					}
				}
			}
		}
	}
}

func TestP1_2RatioAtTheEdge(t *testing.T) {
	// 2^63 - 1/2 and -2^63 - 1/2: only one way of rounding stays in the range.
	for i, c := range []struct {
		a, b, c int64
		up      bool
		want    int64
		err     api.Errno
	}{
		{6148914691236517205, 3, 2, false, most, 0},
		{6148914691236517205, 3, 2, true, 0, api.ErrOver},
		{-274177, 67280421310721, 2, true, least, 0},
		{-274177, 67280421310721, 2, false, 0, api.ErrOver},
		{least, 1, 1, false, least, 0},
		{least, -1, 1, false, 0, api.ErrOver},
		{math.MaxInt64, 2, 2, true, most, 0},
		{7, 3, 2, false, 10, 0}, {7, 3, 2, true, 11, 0}, {-7, 3, 2, false, -11, 0},
		{1, 1, 0, true, 0, api.ErrRange},
		{most, most, least, true, 0, api.ErrRange},
	} {
		if v, e := Ratio(c.a, c.b, c.c, c.up); v != c.want || e != c.err {
			t.Error(i, v, e)
		}
	}
}

func TestP1_2Clamp(t *testing.T) {
	for _, c := range [][4]int64{
		{3, 1, 5, 3}, {0, 1, 5, 1}, {9, 1, 5, 5}, {1, 1, 5, 1}, {5, 1, 5, 5},
		{3, 5, 1, 1}, {9, 5, 1, 1}, {0, 5, 1, 1}, {least, least, most, least}, {most, least, most, most},
	} {
		if v := Clamp(c[0], c[1], c[2]); v != c[3] {
			t.Error(c, v)
		}
	}
}
