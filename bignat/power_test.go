package bignat

import (
	"math"
	"math/big"
	"testing"

	"credence/api"
)

func TestPow(t *testing.T) {
	s := newSource(1)
	for range 500 {
		a, n := randomNat(s, 4), s.IntN(30)
		p, e := Pow(a, n)
		if e != api.OK {
			t.Fatal(a, n, e)
		}
		check(t, "Pow", p, new(big.Int).Exp(toBig(a), big.NewInt(int64(n)), nil))
	}
}

func TestPowOfSmallBases(t *testing.T) {
	for _, n := range []int{0, 1, 2, 3, api.MaxNatBits, math.MaxInt64 - 1, math.MaxInt64} {
		for _, a := range []api.Nat{nil, {0}, {0, 0}, {1}, {1, 0, 0}} {
			want := toBig(a)
			if n == 0 {
				want = big.NewInt(1)
			}
			p, e := Pow(a, n)
			if e != api.OK {
				t.Fatal(a, n, e)
			}
			check(t, "Pow", p, want)
		}
	}
}

// bit returns 2^n.
func bit(n int) api.Nat {
	return fromBig(new(big.Int).Lsh(big.NewInt(1), uint(n)))
}

func TestPowLimits(t *testing.T) {
	largest := filled(api.MaxNatBits/32, all)
	half := filled(api.MaxNatBits/64, all)
	for _, x := range []struct {
		a    api.Nat
		n    int
		want api.Errno
	}{
		{api.Nat{2}, api.MaxNatBits - 1, api.OK},
		{api.Nat{2, 0, 0}, api.MaxNatBits, api.ErrTooLarge},
		{api.Nat{2}, api.MaxNatBits + 1, api.ErrTooLarge},
		{api.Nat{2}, math.MaxInt64, api.ErrTooLarge},
		{api.Nat{3}, 41348, api.OK},
		{api.Nat{3}, 41349, api.ErrTooLarge},
		{api.Nat{3}, math.MaxInt64, api.ErrTooLarge},
		{api.Nat{4}, api.MaxNatBits/2 - 1, api.OK},
		{api.Nat{4}, api.MaxNatBits / 2, api.ErrTooLarge},
		{largest, 1, api.OK},
		{append(filled(api.MaxNatBits/32, all), 0, 0), 1, api.OK},
		{bit(api.MaxNatBits), 1, api.ErrTooLarge},
		{bit(api.MaxNatBits), math.MaxInt64, api.ErrTooLarge},
		{bit(2 * api.MaxNatBits), 0, api.OK},
		{largest, 2, api.ErrTooLarge},
		{half, 2, api.OK},
		{half, 3, api.ErrTooLarge},
		{bit(api.MaxNatBits / 2), 2, api.ErrTooLarge},
		{bit(api.MaxNatBits/2 - 1), 2, api.OK},
		{nil, -1, api.ErrInvalid},
		{api.Nat{1}, -1, api.ErrInvalid},
		{api.Nat{2}, math.MinInt64, api.ErrInvalid},
		{bit(api.MaxNatBits), -1, api.ErrInvalid},
	} {
		p, e := Pow(x.a, x.n)
		if e != x.want {
			t.Fatalf("power %d of %d bits: error %d, want %d", x.n, BitLen(x.a), e, x.want)
		}
		if e != api.OK {
			checkEmpty(t, "power beyond the limit", p)
			continue
		}
		check(t, "Pow", p, new(big.Int).Exp(toBig(x.a), big.NewInt(int64(x.n)), nil))
	}
}
