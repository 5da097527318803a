package codec

import (
	"bytes"
	"encoding/binary"
	"math/big"
	"math/rand/v2"
	"slices"
	"testing"

	"credence/api"
	"credence/rational"
)

// all is the greatest digit of a Nat.
const all = 0xffffffff

// newSource returns a source that gives the same numbers in every run.
func newSource(seed uint64) *rand.Rand {
	return rand.New(rand.NewPCG(seed, 4))
}

// randomUint returns a number; all lengths are equally frequent.
func randomUint(s *rand.Rand) uint64 {
	return s.Uint64() >> s.IntN(64)
}

// randomBytes returns up to n bytes.
func randomBytes(s *rand.Rand, n int) []byte {
	out := make([]byte, s.IntN(n+1))
	for i := range out {
		out[i] = byte(s.Uint32())
	}
	return out
}

// randomNat returns a number of up to n digits, often with leading zero digits.
func randomNat(s *rand.Rand, n int) api.Nat {
	out := make(api.Nat, s.IntN(n+1))
	for i := range out {
		if s.IntN(3) > 0 {
			out[i] = s.Uint32() >> s.IntN(32)
		}
	}
	return out
}

// randomFrac returns a number of up to n digits in each part, often not reduced, or with the denominator 0.
func randomFrac(s *rand.Rand, n int) api.Frac {
	return api.Frac{Neg: s.IntN(2) == 0, Num: randomNat(s, n), Den: randomNat(s, n)}
}

// bigNat converts a natural number.
func bigNat(a api.Nat) *big.Int {
	out := new(big.Int)
	for _, digit := range slices.Backward(a) {
		out.Lsh(out, 32)
		out.Add(out, big.NewInt(int64(digit)))
	}
	return out
}

// bigFrac converts a fraction.
func bigFrac(a api.Frac) *big.Rat {
	num, den := bigNat(a.Num), bigNat(a.Den)
	if den.Sign() == 0 {
		return new(big.Rat)
	}
	if a.Neg {
		num.Neg(num)
	}
	return new(big.Rat).SetFrac(num, den)
}

// wantBytes, wantNat and wantFrac are the encodings that P4.1 describes, made with the standard library.
func wantBytes(b []byte) []byte {
	return slices.Concat(binary.AppendUvarint(nil, uint64(len(b))), b)
}

func wantNat(a *big.Int) []byte {
	return wantBytes(a.Bytes())
}

func wantFrac(a *big.Rat) []byte {
	sign := []byte{0}
	if a.Sign() < 0 {
		sign[0] = 1
	}
	return slices.Concat(sign, wantNat(new(big.Int).Abs(a.Num())), wantNat(a.Denom()))
}

// checkBytes fails the test if got is not want.
func checkBytes(t *testing.T, what string, got, want []byte) {
	t.Helper()
	if !bytes.Equal(got, want) {
		t.Fatalf("%s: got % x, want % x", what, got, want)
	}
}

// checkNat fails the test if got is not the canonical form of want.
func checkNat(t *testing.T, what string, got api.Nat, want *big.Int) {
	t.Helper()
	if len(got) > 0 && got[len(got)-1] == 0 || bigNat(got).Cmp(want) != 0 {
		t.Fatalf("%s: got %v, want %v", what, got, want)
	}
}

// checkFrac fails the test if got is not the canonical form of want.
func checkFrac(t *testing.T, what string, got api.Frac, want *big.Rat) {
	t.Helper()
	if !rational.IsCanonical(got) || bigFrac(got).Cmp(want) != 0 {
		t.Fatalf("%s: got %v, want %v", what, got, want)
	}
}

// checkZeroFrac fails the test if a, returned together with an error, is not the zero value.
func checkZeroFrac(t *testing.T, what string, a api.Frac) {
	t.Helper()
	if a.Neg || len(a.Num) > 0 || len(a.Den) > 0 {
		t.Fatalf("%s: got %v, want the zero value", what, a)
	}
}

// checkState fails the test if r does not have this number of unread bytes and this error.
func checkState(t *testing.T, what string, r *Reader, remaining int, e api.Errno) {
	t.Helper()
	if r.Remaining() != remaining || r.Err() != e {
		t.Fatalf("%s: %d bytes remain with error %d, want %d and %d", what, r.Remaining(), r.Err(), remaining, e)
	}
}
