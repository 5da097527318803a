package rational

import (
	"math/big"
	"math/rand/v2"
	"slices"
	"testing"

	"credence/api"
)

// all is the greatest digit of a Nat.
const all = 0xffffffff

// newSource returns a source that gives the same numbers in every run.
func newSource(seed uint64) *rand.Rand {
	return rand.New(rand.NewPCG(seed, 2))
}

// randomFrac returns a fraction with up to n digits in each part. Small, extreme and leading zero digits are frequent, so that it often is not reduced, or has the denominator 0.
func randomFrac(s *rand.Rand, n int) api.Frac {
	part := func() api.Nat {
		out := make(api.Nat, s.IntN(n+1))
		for i := range out {
			switch s.IntN(5) {
			case 0:
			case 1:
				out[i] = all
			case 2:
				out[i] = s.Uint32N(40)
			default:
				out[i] = s.Uint32()
			}
		}
		return out
	}
	return api.Frac{Neg: s.IntN(2) == 0, Num: part(), Den: part()}
}

// frac returns num/den as it stands, without reducing it.
func frac(num int32, den uint32) api.Frac {
	return api.Frac{Neg: num < 0, Num: api.Nat{uint32(max(num, -num))}, Den: api.Nat{den}}
}

// bigNat converts a natural number.
func bigNat(a api.Nat) *big.Int {
	var bytes []byte
	for _, d := range slices.Backward(a) {
		bytes = append(bytes, byte(d>>24), byte(d>>16), byte(d>>8), byte(d))
	}
	return new(big.Int).SetBytes(bytes)
}

// toBig returns the value of a.
func toBig(a api.Frac) *big.Rat {
	num, den := bigNat(a.Num), bigNat(a.Den)
	if den.Sign() == 0 {
		return new(big.Rat)
	}
	if a.Neg {
		num.Neg(num)
	}
	return new(big.Rat).SetFrac(num, den)
}

// isForm reports whether a is the canonical form of want, without calling the package.
func isForm(a api.Frac, want *big.Rat) bool {
	trimmed := func(n api.Nat) bool { return len(n) == 0 || n[len(n)-1] != 0 }
	num := bigNat(a.Num)
	if a.Neg {
		num.Neg(num)
	}
	return trimmed(a.Num) && trimmed(a.Den) && a.Neg == (want.Sign() < 0) && num.Cmp(want.Num()) == 0 && bigNat(a.Den).Cmp(want.Denom()) == 0
}

// check fails the test if got is not the canonical form of want.
func check(t *testing.T, what string, got api.Frac, want *big.Rat) {
	t.Helper()
	if !isForm(got, want) {
		t.Fatalf("%s: got %v, want %v", what, got, want)
	}
}

// checkZeroValue fails the test if a, returned together with an error, is not the zero value.
func checkZeroValue(t *testing.T, what string, a api.Frac) {
	t.Helper()
	if a.Neg || len(a.Num) > 0 || len(a.Den) > 0 {
		t.Fatalf("%s: got %v, want the zero value", what, a)
	}
}
