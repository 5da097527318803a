package poly

import (
	"math/big"
	"math/rand/v2"
	"slices"
	"testing"

	"credence/api"
	"credence/rational"
)

// newSource returns a source that gives the same numbers in every run.
func newSource(seed uint64) *rand.Rand {
	return rand.New(rand.NewPCG(seed, 3))
}

// zeros are the number 0 in all its forms.
var zeros = []api.Frac{
	{}, {Neg: true}, {Den: api.Nat{1}}, {Neg: true, Den: api.Nat{1}}, {Den: api.Nat{6}}, {Num: api.Nat{0, 0}, Den: api.Nat{3, 0}},
	{Num: api.Nat{5}}, {Neg: true, Num: api.Nat{5}, Den: api.Nat{0, 0}},
}

// frac returns num/den as it stands, without reducing it.
func frac(num int64, den uint32) api.Frac {
	magnitude := uint64(max(num, -num))
	return api.Frac{Neg: num < 0, Num: api.Nat{uint32(magnitude), uint32(magnitude >> 32)}, Den: api.Nat{den}}
}

// ints returns the polynomial with these coefficients.
func ints(l ...int64) api.Poly {
	var out api.Poly
	for _, n := range l {
		out = append(out, frac(n, 1))
	}
	return out
}

// repeated returns n coefficients a.
func repeated(a api.Frac, n int) api.Poly {
	return slices.Repeat(api.Poly{a}, n)
}

// randomFrac returns a number, often not reduced, sometimes 0 or with many digits.
func randomFrac(s *rand.Rand) api.Frac {
	a := frac(s.Int64N(25)-12, 1+s.Uint32N(12))
	switch s.IntN(6) {
	case 0:
		return zeros[s.IntN(len(zeros))]
	case 1:
		a.Num = api.Nat{s.Uint32(), s.Uint32(), s.Uint32() % 2, 0}
	case 2:
		a.Den = api.Nat{s.Uint32() | 1, s.Uint32(), 0}
	}
	return a
}

// randomPoly returns up to n coefficients; trailing zeros are frequent.
func randomPoly(s *rand.Rand, n int) api.Poly {
	var out api.Poly
	for range s.IntN(n + 1) {
		out = append(out, randomFrac(s))
	}
	if s.IntN(4) == 0 {
		out = append(out, zeros[s.IntN(len(zeros))], zeros[s.IntN(len(zeros))])
	}
	return out
}

// term returns the coefficient of x^i of p, 0 where p has none.
func term(p api.Poly, i int) api.Frac {
	if i < 0 || i >= len(p) {
		return api.Frac{}
	}
	return p[i]
}

// check fails the test if got is not the canonical form of want.
func check(t *testing.T, what string, got, want api.Poly) {
	t.Helper()
	if len(got) > 0 && rational.Sign(got[len(got)-1]) == 0 {
		t.Fatalf("%s: %v has a trailing zero coefficient", what, got)
	}
	for i := range max(len(got), len(want)) {
		if rational.Cmp(term(got, i), term(want, i)) != 0 {
			t.Fatalf("%s: the coefficient of x^%d is %v, want %v", what, i, term(got, i), term(want, i))
		}
	}
	for i, a := range got {
		if !rational.IsCanonical(a) {
			t.Fatalf("%s: the coefficient %v of x^%d is not canonical", what, a, i)
		}
	}
}

// checkNumber fails the test if got is not the canonical form of want.
func checkNumber(t *testing.T, what string, got, want api.Frac) {
	t.Helper()
	if !rational.IsCanonical(got) || rational.Cmp(got, want) != 0 {
		t.Fatalf("%s: got %v, want %v", what, got, want)
	}
}

// checkText fails the test if got is not the canonical form of the number that want denotes.
func checkText(t *testing.T, what string, got api.Frac, want *big.Rat) {
	t.Helper()
	if !rational.IsCanonical(got) || rational.Format(got) != want.RatString() {
		t.Fatalf("%s: got %s, want %s", what, rational.Format(got), want.RatString())
	}
}

// checkLimit fails the test if the error e is not want, or p is not empty where there is an error.
func checkLimit(t *testing.T, what string, p api.Poly, e, want api.Errno) {
	t.Helper()
	if e != want {
		t.Fatalf("%s: error %d, want %d", what, e, want)
	}
	if e != api.OK && len(p) > 0 {
		t.Fatalf("%s: %d coefficients with an error", what, len(p))
	}
}
