package bignat

import (
	"math"
	"math/big"
	"slices"
	"testing"

	"credence/api"
)

func TestFromUint64(t *testing.T) {
	for _, n := range []uint64{0, 1, 7, 1<<32 - 1, 1 << 32, 1<<32 + 1, 1 << 63, math.MaxUint64} {
		check(t, "FromUint64", FromUint64(n), new(big.Int).SetUint64(n))
	}
}

func TestNormalize(t *testing.T) {
	for _, x := range []struct{ a, want api.Nat }{
		{nil, nil},
		{api.Nat{}, nil},
		{api.Nat{0}, nil},
		{api.Nat{0, 0, 0}, nil},
		{api.Nat{5}, api.Nat{5}},
		{api.Nat{5, 0, 0}, api.Nat{5}},
		{api.Nat{0, 0, 9}, api.Nat{0, 0, 9}},
		{api.Nat{0, 1, 0, 2, 0}, api.Nat{0, 1, 0, 2}},
	} {
		if got := Normalize(x.a); !slices.Equal(got, x.want) {
			t.Errorf("Normalize(%v) is %v", x.a, got)
		}
	}
}

func TestUint64(t *testing.T) {
	for _, x := range []struct {
		a    api.Nat
		want uint64
		ok   bool
	}{
		{nil, 0, true},
		{api.Nat{0}, 0, true},
		{api.Nat{0, 0, 0, 0}, 0, true},
		{api.Nat{7, 0, 0, 0}, 7, true},
		{api.Nat{all}, all, true},
		{api.Nat{0, 1}, 1 << 32, true},
		{api.Nat{2, 3}, 3<<32 + 2, true},
		{api.Nat{all, all, 0}, math.MaxUint64, true},
		{api.Nat{0, 0, 1}, 0, false},
		{api.Nat{1, 2, 3, 4, 0}, 0, false},
	} {
		if got, ok := Uint64(x.a); got != x.want || ok != x.ok {
			t.Errorf("Uint64(%v) is %d, %v", x.a, got, ok)
		}
	}
}

func TestBitLen(t *testing.T) {
	for _, x := range []struct {
		a    api.Nat
		want int
	}{
		{nil, 0},
		{api.Nat{0, 0}, 0},
		{api.Nat{1}, 1},
		{api.Nat{2}, 2},
		{api.Nat{3, 0, 0}, 2},
		{api.Nat{all}, 32},
		{api.Nat{0, 1}, 33},
		{api.Nat{all, all}, 64},
		{api.Nat{0, 0, 0, 0x80000000, 0}, 128},
		{append(make(api.Nat, 5000), 1), 160001},
	} {
		if got := BitLen(x.a); got != x.want {
			t.Errorf("BitLen(%v) is %d, want %d", x.a, got, x.want)
		}
	}
}

func TestCmp(t *testing.T) {
	ascending := []api.Nat{nil, {1}, {2}, {all}, {0, 1}, {1, 1}, {all, 1}, {0, 2}, {all, all}, {0, 0, 1}, {5, 0, 1}, {0, 5, 1}}
	for i, a := range ascending {
		for j, b := range ascending {
			want := 0
			if i < j {
				want = -1
			} else if i > j {
				want = 1
			}
			if got := Cmp(a, b); got != want {
				t.Errorf("Cmp(%v, %v) is %d", a, b, got)
			}
			if got := Cmp(append(slices.Clone(a), 0, 0, 0), append(slices.Clone(b), 0)); got != want {
				t.Errorf("Cmp(%v, %v) with leading zeros is %d", a, b, got)
			}
		}
	}
}

// Arguments stay as they are, with their spare capacity, and no result shares memory with them or with another result.
func TestMemory(t *testing.T) {
	for _, lengths := range [][2]int{{0, 0}, {1, 0}, {1, 1}, {2, 2}, {3, 1}, {4, 3}, {100, 60}, {200, 50}} {
		s := newSource(uint64(lengths[0]))
		a, b := randomNat(s, 0), randomNat(s, 0)
		for range lengths[0] {
			a = append(a, s.Uint32()|1)
		}
		for range lengths[1] {
			b = append(b, s.Uint32()|1)
		}
		a, b = append(a, 0, 5, 6)[:len(a)+1], append(b, 0, 7)[:len(b)+1]
		oldA, oldB := slices.Clone(a[:cap(a)]), slices.Clone(b[:cap(b)])
		results := memoryResults(a, b)
		var copies []api.Nat
		for _, r := range results {
			copies = append(copies, slices.Clone(r))
		}
		for i, r := range results {
			r = r[:cap(r)]
			for j := range r {
				r[j] ^= all
			}
			for j := i + 1; j < len(results); j++ {
				if !slices.Equal(results[j], copies[j]) {
					t.Fatal("results share memory", lengths, i, j)
				}
			}
		}
		if !slices.Equal(a[:cap(a)], oldA) || !slices.Equal(b[:cap(b)], oldB) {
			t.Fatal("an argument was modified", lengths)
		}
	}
}

// memoryResults returns every Nat that the functions compute from a and b.
func memoryResults(a, b api.Nat) []api.Nat {
	difference, _ := Sub(a, b)
	same, _ := Sub(a, nil)
	q, r, _ := DivMod(a, b)
	q1, r1, _ := DivMod(a, api.Nat{1})
	q0, r0, _ := DivMod(b, Add(a, b))
	power, _ := Pow(a, 1)
	square, _ := Pow(b, 2)
	Uint64(a)
	BitLen(a)
	Cmp(a, b)
	Format(a)
	return []api.Nat{
		Normalize(a), Normalize(b), Add(a, b), Add(a, nil), Add(nil, a), difference, same,
		Mul(a, b), Mul(a, api.Nat{1}), Mul(api.Nat{1}, b), Mul(a, a), q, r, q1, r1, q0, r0,
		GCD(a, b), GCD(a, a), GCD(nil, a), GCD(a, nil), power, square,
	}
}
