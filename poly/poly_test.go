package poly

import (
	"math"
	"slices"
	"testing"

	"credence/api"
	"credence/rational"
)

func TestNormalize(t *testing.T) {
	for _, x := range []struct{ p, want api.Poly }{
		{nil, nil},
		{api.Poly{}, nil},
		{zeros, nil},
		{ints(5), ints(5)},
		{ints(0, 0, 7), ints(0, 0, 7)},
		{append(ints(1, 2), zeros...), ints(1, 2)},
		{append(slices.Clone(zeros), frac(-6, 4)), append(make(api.Poly, len(zeros)), frac(-3, 2))},
		{api.Poly{{Num: api.Nat{2, 0}, Den: api.Nat{4, 0, 0}}, {}, frac(9, 3)}, api.Poly{frac(1, 2), {}, frac(3, 1)}},
	} {
		check(t, "Normalize", Normalize(x.p), x.want)
		if got := Normalize(x.p); len(got) != len(x.want) {
			t.Errorf("Normalize(%v) has %d coefficients, want %d", x.p, len(got), len(x.want))
		}
	}
}

func TestSums(t *testing.T) {
	s := newSource(1)
	for range 3000 {
		p, q := randomPoly(s, 6), randomPoly(s, 6)
		var want api.Poly
		for i := range max(len(p), len(q)) {
			want = append(want, rational.Add(term(p, i), term(q, i)))
		}
		check(t, "Add", Add(p, q), want)
		check(t, "Normalize", Normalize(p), p)
	}
}

// The highest coefficients of a sum may vanish.
func TestSumsThatCancel(t *testing.T) {
	for _, x := range []struct{ p, q, want api.Poly }{
		{nil, nil, nil},
		{zeros, api.Poly{{}}, nil},
		{ints(1, 2), nil, ints(1, 2)},
		{zeros, ints(1, 2), ints(1, 2)},
		{ints(1, 2, 3), ints(4, 5, -3), ints(5, 7)},
		{ints(1, 2, 3), ints(-1, -2, -3), nil},
		{ints(0, 2, 3), ints(4, -2, -3), ints(4)},
		{api.Poly{frac(1, 2), frac(1, 3)}, api.Poly{frac(1, 2), frac(-2, 6)}, ints(1)},
	} {
		check(t, "Add", Add(x.p, x.q), x.want)
		check(t, "Add", Add(x.q, x.p), x.want)
	}
}

func TestScale(t *testing.T) {
	s := newSource(2)
	for range 2000 {
		p, a := randomPoly(s, 6), randomFrac(s)
		var want api.Poly
		for _, b := range p {
			want = append(want, rational.Mul(a, b))
		}
		check(t, "Scale", Scale(p, a), want)
	}
	for _, zero := range zeros {
		check(t, "multiple by 0", Scale(ints(1, -2, 3), zero), nil)
	}
	check(t, "multiple of 0", Scale(zeros, frac(3, 4)), nil)
	check(t, "multiple by 1", Scale(append(ints(1, -2), zeros...), frac(5, 5)), ints(1, -2))
}

func TestShift(t *testing.T) {
	const n = api.MaxTerms
	full := repeated(frac(2, 4), n)
	for _, x := range []struct {
		p    api.Poly
		n    int
		want api.Errno
	}{
		{ints(1, 2), 0, api.OK},
		{ints(1, 2), 1, api.OK},
		{append(ints(0, -2, 4), zeros...), 3, api.OK},
		{ints(1, 2), n - 2, api.OK},
		{ints(1, 2), n - 1, api.ErrTooLarge},
		{ints(1), n - 1, api.OK},
		{ints(1), n, api.ErrTooLarge},
		{ints(0, 0, 1), n - 3, api.OK},
		{ints(0, 0, 1), n - 2, api.ErrTooLarge},
		{append(ints(3), zeros...), n - 1, api.OK},
		{full, 0, api.OK},
		{append(slices.Clone(full), zeros...), 0, api.OK},
		{full, 1, api.ErrTooLarge},
		{append(slices.Clone(full), frac(1, 1)), 0, api.ErrTooLarge},
		{full, n, api.ErrTooLarge},
		{nil, 0, api.OK},
		{nil, n, api.OK},
		{append(slices.Clone(zeros), make(api.Poly, 2*n)...), n, api.OK},
		{nil, n + 1, api.ErrTooLarge},
		{zeros, math.MaxInt, api.ErrTooLarge},
		{ints(1), math.MaxInt, api.ErrTooLarge},
		{nil, -1, api.ErrInvalid},
		{ints(1), -1, api.ErrInvalid},
		{ints(1), math.MinInt, api.ErrInvalid},
		{append(slices.Clone(full), frac(1, 1)), -1, api.ErrInvalid},
	} {
		q, e := Shift(x.p, x.n)
		checkLimit(t, "Shift", q, e, x.want)
		if e == api.OK {
			check(t, "Shift", q, append(make(api.Poly, x.n), x.p...))
		}
	}
}

func TestTruncate(t *testing.T) {
	p := append(ints(3, 0, -5, 0, 0, 7), zeros...)
	for _, x := range []struct {
		n    int
		want api.Poly
	}{
		{math.MinInt, nil},
		{-1, nil},
		{0, nil},
		{1, ints(3)},
		{2, ints(3)},
		{3, ints(3, 0, -5)},
		{4, ints(3, 0, -5)},
		{5, ints(3, 0, -5)},
		{6, ints(3, 0, -5, 0, 0, 7)},
		{7, ints(3, 0, -5, 0, 0, 7)},
		{api.MaxTerms + 1, ints(3, 0, -5, 0, 0, 7)},
		{math.MaxInt, ints(3, 0, -5, 0, 0, 7)},
	} {
		check(t, "Truncate", Truncate(p, x.n), x.want)
		check(t, "Truncate", Truncate(nil, x.n), nil)
	}
	s := newSource(3)
	for range 1000 {
		p, n := randomPoly(s, 8), s.IntN(12)
		check(t, "Truncate", Truncate(p, n), p[:min(n, len(p))])
	}
}

// Arguments stay as they are, with their spare capacity, and no result shares memory with them or within itself.
func TestMemory(t *testing.T) {
	for _, p := range memoryArguments() {
		for _, q := range memoryArguments() {
			a := api.Frac{Neg: true, Num: api.Nat{6, 0, 5}[:2], Den: api.Nat{4, 0, 5}[:2]}
			arguments := slices.Concat(digits(p), digits(q), digits(api.Poly{a}))
			before := copies(arguments)
			checkResults(t, memoryResults(p, q, a))
			if !slices.EqualFunc(arguments, before, slices.Equal) {
				t.Fatal("an argument was modified", p, q)
			}
		}
	}
}

// memoryArguments returns polynomials with spare capacity, new ones in each call.
func memoryArguments() []api.Poly {
	spare := api.Frac{Num: api.Nat{8, 9}[:1], Den: api.Nat{3, 9}[:1]}
	return []api.Poly{
		api.Poly{spare}[:0],
		api.Poly{{Den: api.Nat{1}}, {}, {Num: api.Nat{7}}, spare}[:3],
		api.Poly{{Num: api.Nat{3, 7, 7}[:1], Den: api.Nat{4, 7}[:1]}, spare}[:1],
		api.Poly{{Num: api.Nat{1}, Den: api.Nat{1}}, {}, {Num: api.Nat{2, 0, 5}[:2], Den: api.Nat{6}}, {}, spare}[:4],
		api.Poly{{}, {Neg: true, Num: api.Nat{1, 2, 3, 9}[:3], Den: api.Nat{1, 9}[:1]}, {}, {Num: api.Nat{5}, Den: api.Nat{0, 4, 9}[:2]}, spare}[:4],
	}
}

// memoryResults returns every polynomial that the functions compute from p, q and a; one of them holds the numbers.
func memoryResults(p, q api.Poly, a api.Frac) []api.Poly {
	shifted, _ := Shift(p, 3)
	unshifted, _ := Shift(p, 0)
	constant, _ := Pow(p, 0)
	same, _ := Pow(p, 1)
	cube, _ := Pow(p, 3)
	return []api.Poly{
		Normalize(p), Add(p, q), Add(p, nil), Mul(p, q), Mul(p, ints(1)), Scale(p, a), Scale(p, frac(1, 1)),
		shifted, unshifted, constant, same, cube, Derivative(p), Truncate(p, 2), Truncate(p, 9),
		{Eval(p, a), Eval(p, api.Frac{}), Total(p), Mean(p), Prefix(p, 1), Prefix(p, 9)},
	}
}

// digits returns the digits of all coefficients of p, with the spare capacity at every depth.
func digits(p api.Poly) []api.Nat {
	var out []api.Nat
	for _, a := range p[:cap(p)] {
		out = append(out, a.Num[:cap(a.Num)], a.Den[:cap(a.Den)])
	}
	return out
}

// copies returns a copy of l that shares no memory with it.
func copies(l []api.Nat) []api.Nat {
	var out []api.Nat
	for _, n := range l {
		out = append(out, slices.Clone(n))
	}
	return out
}

// checkResults overwrites the numbers of the results, one after another, and fails the test if a later one changes.
func checkResults(t *testing.T, results []api.Poly) {
	t.Helper()
	var parts []api.Nat
	for _, p := range results {
		parts = append(parts, digits(p)...)
	}
	before := copies(parts)
	for i, n := range parts {
		for j := range n {
			n[j]++
		}
		if !slices.EqualFunc(parts[i+1:], before[i+1:], slices.Equal) {
			t.Fatal("results share memory", i)
		}
	}
}
