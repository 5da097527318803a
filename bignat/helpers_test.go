package bignat

import (
	"math/big"
	"math/rand/v2"
	"testing"

	"credence/api"
)

// all is the greatest digit.
const all = 0xffffffff

// newSource returns a source that gives the same numbers in every run.
func newSource(seed uint64) *rand.Rand {
	return rand.New(rand.NewPCG(seed, 1))
}

// randomNat returns a number of up to n digits. Extreme digits and leading zero digits are frequent.
func randomNat(s *rand.Rand, n int) api.Nat {
	out := make(api.Nat, s.IntN(n+1))
	for i := range out {
		switch s.IntN(5) {
		case 0:
		case 1:
			out[i] = all
		case 2:
			out[i] = 1 << s.IntN(32)
		default:
			out[i] = s.Uint32()
		}
	}
	return out
}

// filled returns n digits d.
func filled(n int, d uint32) api.Nat {
	out := make(api.Nat, n)
	for i := range out {
		out[i] = d
	}
	return out
}

// toBig converts a number.
func toBig(a api.Nat) *big.Int {
	out := new(big.Int)
	for i := len(a) - 1; i >= 0; i-- {
		out.Lsh(out, 32)
		out.Or(out, new(big.Int).SetUint64(uint64(a[i])))
	}
	return out
}

// fromBig converts a number.
func fromBig(a *big.Int) api.Nat {
	var out api.Nat
	mask := big.NewInt(all)
	for rest := new(big.Int).Set(a); rest.Sign() != 0; rest.Rsh(rest, 32) {
		out = append(out, uint32(new(big.Int).And(rest, mask).Uint64()))
	}
	return out
}

// check fails the test if got is not the canonical form of want.
func check(t *testing.T, what string, got api.Nat, want *big.Int) {
	t.Helper()
	if len(got) > 0 && got[len(got)-1] == 0 {
		t.Fatalf("%s: %v has leading zeros", what, got)
	}
	if toBig(got).Cmp(want) != 0 {
		t.Fatalf("%s: got %v, want %v", what, toBig(got), want)
	}
}

// checkEmpty fails the test if a is not the number 0 without digits.
func checkEmpty(t *testing.T, what string, a api.Nat) {
	t.Helper()
	if len(a) != 0 {
		t.Fatalf("%s: got %v, want no digits", what, a)
	}
}
