package poly

import (
	"math"
	"math/big"
	"slices"
	"testing"

	"credence/api"
	"credence/rational"
)

// product multiplies p and q as the definition says.
func product(p, q api.Poly) api.Poly {
	var out api.Poly
	for k := range len(p) + len(q) {
		sum := api.Frac{}
		for i := range p {
			sum = rational.Add(sum, rational.Mul(p[i], term(q, k-i)))
		}
		out = append(out, sum)
	}
	return out
}

func TestProducts(t *testing.T) {
	s := newSource(11)
	for range 3000 {
		p, q := randomPoly(s, 6), randomPoly(s, 6)
		check(t, "Mul", Mul(p, q), product(p, q))
	}
	for range 20 {
		p, q := randomPoly(s, 60), randomPoly(s, 30)
		check(t, "Mul", Mul(p, q), product(p, q))
	}
}

func TestProductEdges(t *testing.T) {
	for _, x := range []struct{ p, q, want api.Poly }{
		{nil, nil, nil},
		{zeros, ints(1, 2, 3), nil},
		{nil, ints(4), nil},
		{zeros, zeros, nil},
		{ints(1), ints(0, -2, 3), ints(0, -2, 3)},
		{ints(-2), ints(1, -2), ints(-2, 4)},
		{append(ints(1, 1), zeros...), append(ints(1, -1), zeros...), ints(1, 0, -1)},
		{ints(1, 1, 1), ints(1, -1), ints(1, 0, 0, -1)},
		{ints(0, 0, 1), ints(0, 1), ints(0, 0, 0, 1)},
		{api.Poly{frac(1, 2), frac(1, 3)}, api.Poly{frac(2, 1), frac(3, 1)}, api.Poly{frac(1, 1), frac(13, 6), frac(1, 1)}},
		{api.Poly{frac(-1, 6), {}, frac(1, 10)}, api.Poly{frac(-6, 4), frac(1, 15)}, api.Poly{frac(1, 4), frac(-1, 90), frac(-3, 20), frac(1, 150)}},
	} {
		check(t, "Mul", Mul(x.p, x.q), x.want)
		check(t, "Mul", Mul(x.q, x.p), x.want)
	}
}

// Mul has no limit. The coefficients of the square of 1 + x + .. rise to the middle and fall again.
func TestLongProducts(t *testing.T) {
	const n = api.MaxTerms + 1
	var square api.Poly
	for i := range int64(2*n - 1) {
		square = append(square, frac(min(i+1, 2*n-1-i), 36))
	}
	check(t, "Mul", Mul(repeated(frac(-1, 6), n), repeated(frac(-2, 12), n)), square)
}

func TestLaws(t *testing.T) {
	s := newSource(12)
	for range 500 {
		p, q, r := randomPoly(s, 5), randomPoly(s, 5), randomPoly(s, 5)
		check(t, "p + q = q + p", Add(p, q), Add(q, p))
		check(t, "p * q = q * p", Mul(p, q), Mul(q, p))
		check(t, "(p + q) + r = p + (q + r)", Add(Add(p, q), r), Add(p, Add(q, r)))
		check(t, "(p * q) * r = p * (q * r)", Mul(Mul(p, q), r), Mul(p, Mul(q, r)))
		check(t, "p * (q + r) = p * q + p * r", Mul(p, Add(q, r)), Add(Mul(p, q), Mul(p, r)))
		check(t, "p + (-1) p = 0", Add(p, Scale(p, frac(-1, 1))), nil)
		a := randomFrac(s)
		check(t, "a p = constant a * p", Scale(p, a), Mul(p, api.Poly{a}))
		shifted, e := Shift(p, 4)
		checkLimit(t, "Shift", shifted, e, api.OK)
		check(t, "Shift", shifted, Mul(p, ints(0, 0, 0, 0, 1)))
	}
}

func TestPow(t *testing.T) {
	s := newSource(13)
	for range 300 {
		p := randomPoly(s, 4)
		want := ints(1)
		for n := range 7 {
			q, e := Pow(p, n)
			checkLimit(t, "Pow", q, e, api.OK)
			check(t, "Pow", q, want)
			want = product(want, p)
		}
	}
}

// Each power has a coefficient of its own for every x^k: (1/3 - 2x/3)^n is the sum of binomial(n, k) (-2x)^k / 3^n.
func TestPowOfLargeExponents(t *testing.T) {
	for _, n := range []int64{2, 50, 51, api.MaxTerms - 1} {
		p, e := Pow(api.Poly{frac(1, 3), frac(-4, 6), {}}, int(n))
		checkLimit(t, "Pow", p, e, api.OK)
		if len(p) != int(n)+1 {
			t.Fatalf("power %d has %d coefficients", n, len(p))
		}
		den := new(big.Int).Exp(big.NewInt(3), big.NewInt(n), nil)
		for k := range n + 1 {
			num := new(big.Int).Exp(big.NewInt(-2), big.NewInt(k), nil)
			num.Mul(num, new(big.Int).Binomial(n, k))
			checkText(t, "Pow", p[k], new(big.Rat).SetFrac(num, den))
		}
	}
}

// The limits concern the exponent and the number of coefficients, not their size.
func TestPowOfConstants(t *testing.T) {
	power := new(big.Int).Lsh(big.NewInt(1), 64*api.MaxTerms+api.MaxTerms)
	digits := make(api.Nat, 3)
	digits[2] = 2
	p, e := Pow(api.Poly{{Neg: true, Num: digits, Den: api.Nat{1}}, {}}, api.MaxTerms)
	checkLimit(t, "Pow", p, e, api.OK)
	checkText(t, "Pow", term(p, 0), new(big.Rat).SetInt(power))
	p, e = Pow(api.Poly{{Num: api.Nat{3}, Den: digits}}, 5)
	checkLimit(t, "Pow", p, e, api.OK)
	checkText(t, "Pow", term(p, 0), new(big.Rat).SetFrac(big.NewInt(243), new(big.Int).Lsh(big.NewInt(1), 5*65)))
}

func TestPowLimits(t *testing.T) {
	const n = api.MaxTerms
	x, long := ints(0, 1), append(make(api.Poly, n), frac(1, 1))
	for _, c := range []struct {
		p    api.Poly
		n    int
		want api.Errno
	}{
		{x, n - 1, api.OK},
		{x, n, api.ErrTooLarge},
		{append(slices.Clone(x), zeros...), n - 1, api.OK},
		{ints(0, 0, 0, 1), 341, api.OK},
		{ints(0, 0, 0, 1), 342, api.ErrTooLarge},
		{ints(1, 0, 1), 511, api.OK},
		{ints(1, 0, 1), 512, api.ErrTooLarge},
		{long[1:], 1, api.OK},
		{slices.Concat(long[1:], zeros), 1, api.OK},
		{long[1:], 2, api.ErrTooLarge},
		{long, 0, api.OK},
		{long, 1, api.ErrTooLarge},
		{long, n, api.ErrTooLarge},
		{long, n + 1, api.ErrTooLarge},
		{ints(2), n, api.OK},
		{ints(2), n + 1, api.ErrTooLarge},
		{ints(1), math.MaxInt, api.ErrTooLarge},
		{x, math.MaxInt, api.ErrTooLarge},
		{nil, 0, api.OK},
		{zeros, 0, api.OK},
		{nil, 1, api.OK},
		{zeros, n, api.OK},
		{nil, n + 1, api.ErrTooLarge},
		{nil, math.MaxInt, api.ErrTooLarge},
		{nil, -1, api.ErrInvalid},
		{long, -1, api.ErrInvalid},
		{ints(1), math.MinInt, api.ErrInvalid},
	} {
		p, e := Pow(c.p, c.n)
		checkLimit(t, "Pow", p, e, c.want)
		if e == api.OK {
			checkMonomial(t, c.p, c.n, p)
		}
	}
}

// checkMonomial checks the degree of a power, and that it has the right value at 2.
func checkMonomial(t *testing.T, p api.Poly, n int, power api.Poly) {
	t.Helper()
	p = Normalize(p)
	want := max(0, (len(p)-1)*n+1)
	if n == 0 {
		want = 1
	}
	if len(power) != want {
		t.Fatalf("power %d of %d coefficients has %d coefficients, want %d", n, len(p), len(power), want)
	}
	two := frac(2, 1)
	checkNumber(t, "value of a power", Eval(power, two), rational.Product(repeated(Eval(p, two), n)))
}
