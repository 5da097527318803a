package poly

import (
	"math"
	"math/big"
	"testing"

	"credence/api"
	"credence/rational"
)

// value evaluates p at x as the definition says.
func value(p api.Poly, x api.Frac) api.Frac {
	sum, power := api.Frac{}, frac(1, 1)
	for _, a := range p {
		sum = rational.Add(sum, rational.Mul(a, power))
		power = rational.Mul(power, x)
	}
	return sum
}

// slope returns the coefficients of the derivative as the definition says.
func slope(p api.Poly) api.Poly {
	var out api.Poly
	for i := 1; i < len(p); i++ {
		out = append(out, rational.Mul(frac(int64(i), 1), p[i]))
	}
	return out
}

func TestValues(t *testing.T) {
	s := newSource(21)
	for range 2000 {
		p, x := randomPoly(s, 12), randomFrac(s)
		checkNumber(t, "Eval", Eval(p, x), value(p, x))
		check(t, "Derivative", Derivative(p), slope(p))
		checkNumber(t, "Total", Total(p), value(p, frac(1, 1)))
		checkNumber(t, "Total and Eval", Total(p), Eval(p, frac(3, 3)))
		checkNumber(t, "Mean", Mean(p), value(slope(p), frac(1, 1)))
		checkNumber(t, "Mean and Eval", Mean(p), Eval(Derivative(p), frac(1, 1)))
	}
}

func TestValueEdges(t *testing.T) {
	for _, x := range []struct {
		p    api.Poly
		x    api.Frac
		want api.Frac
	}{
		{nil, api.Frac{}, api.Frac{}},
		{nil, frac(7, 2), api.Frac{}},
		{zeros, frac(7, 2), api.Frac{}},
		{ints(5), frac(7, 2), frac(5, 1)},
		{append(api.Poly{frac(6, 4)}, zeros...), frac(7, 2), frac(3, 2)},
		{ints(5, 1), frac(-7, 2), frac(3, 2)},
		{ints(1, 2, 3), frac(2, 1), frac(17, 1)},
		{ints(1, 2, 3, 4), frac(-1, 1), frac(-2, 1)},
		{ints(0, 0, 0, 0, 1), frac(-1, 2), frac(1, 16)},
		{ints(6, -5, 1), frac(3, 1), api.Frac{}},
	} {
		checkNumber(t, "Eval", Eval(x.p, x.x), x.want)
	}
	for _, zero := range zeros {
		checkNumber(t, "value at 0", Eval(ints(9, 8, 7, 6), zero), frac(9, 1))
		checkNumber(t, "value at 0", Eval(ints(0, 8, 7), zero), api.Frac{})
	}
}

// The value of 1 + x + .. + x^(n-1) at x is (x^n - 1) / (x - 1), for numbers of coefficients around powers of 2 and beyond MaxTerms.
func TestValuesOfLongPolynomials(t *testing.T) {
	for _, n := range []int64{1, 2, 3, 4, 5, 7, 8, 9, 63, 64, 65, api.MaxTerms, api.MaxTerms + 1, 3000} {
		for _, x := range []int64{-3, 2, 10} {
			want := new(big.Int).Exp(big.NewInt(x), big.NewInt(n), nil)
			want.Sub(want, big.NewInt(1))
			checkText(t, "Eval", Eval(repeated(frac(1, 1), int(n)), frac(x, 1)), new(big.Rat).SetFrac(want, big.NewInt(x-1)))
		}
	}
}

func TestDerivative(t *testing.T) {
	for _, x := range []struct{ p, want api.Poly }{
		{nil, nil},
		{zeros, nil},
		{ints(5), nil},
		{append(ints(5), zeros...), nil},
		{ints(5, 7), ints(7)},
		{ints(0, 0, 0, 1), ints(0, 0, 3)},
		{append(ints(1, -1, 4, 0, 2), zeros...), ints(-1, 8, 0, 8)},
		{api.Poly{frac(1, 2), frac(1, 4), frac(1, 4), frac(1, 9)}, api.Poly{frac(1, 4), frac(1, 2), frac(1, 3)}},
	} {
		check(t, "Derivative", Derivative(x.p), x.want)
	}
	s := newSource(22)
	for range 500 {
		p, q := randomPoly(s, 6), randomPoly(s, 6)
		check(t, "product rule", Derivative(Mul(p, q)), Add(Mul(Derivative(p), q), Mul(p, Derivative(q))))
	}
}

func TestTotalAndMean(t *testing.T) {
	for _, x := range []struct {
		p           api.Poly
		total, mean api.Frac
	}{
		{nil, api.Frac{}, api.Frac{}},
		{zeros, api.Frac{}, api.Frac{}},
		{ints(4), frac(4, 1), api.Frac{}},
		{ints(0, 1), frac(1, 1), frac(1, 1)},
		{ints(1, -2, 1), api.Frac{}, api.Frac{}},
		{append(api.Poly{frac(1, 4), frac(2, 4), frac(1, 4)}, zeros...), frac(1, 1), frac(1, 1)},
		{api.Poly{frac(1, 2), {}, {}, frac(1, 3)}, frac(5, 6), frac(1, 1)},
	} {
		checkNumber(t, "Total", Total(x.p), x.total)
		checkNumber(t, "Mean", Mean(x.p), x.mean)
	}
}

func TestPrefix(t *testing.T) {
	p := append(api.Poly{frac(1, 2), {}, frac(2, 4), frac(-5, 3)}, zeros...)
	for _, x := range []struct {
		n    int
		want api.Frac
	}{
		{math.MinInt, api.Frac{}},
		{-1, api.Frac{}},
		{0, api.Frac{}},
		{1, frac(1, 2)},
		{2, frac(1, 2)},
		{3, frac(1, 1)},
		{4, frac(-2, 3)},
		{5, frac(-2, 3)},
		{len(p) + 1, frac(-2, 3)},
		{math.MaxInt, frac(-2, 3)},
	} {
		checkNumber(t, "Prefix", Prefix(p, x.n), x.want)
		checkNumber(t, "Prefix", Prefix(nil, x.n), api.Frac{})
	}
	s := newSource(23)
	for range 1000 {
		p, n := randomPoly(s, 8), s.IntN(12)
		checkNumber(t, "Prefix", Prefix(p, n), value(p[:min(n, len(p))], frac(1, 1)))
	}
}

// distribution returns n probabilities whose sum is 1.
func distribution(weights ...int64) api.Poly {
	sum := int64(0)
	for _, w := range weights {
		sum += w
	}
	return Scale(ints(weights...), frac(1, uint32(sum)))
}

// The promise P3.3: generating functions of independent counts.
func TestIndependentCounts(t *testing.T) {
	s := newSource(24)
	for range 1000 {
		p, q := randomPoly(s, 6), randomPoly(s, 6)
		checkNumber(t, "total of a product", Total(Mul(p, q)), rational.Mul(Total(p), Total(q)))
		p = distribution(1, s.Int64N(4), s.Int64N(9), s.Int64N(7))
		q = distribution(s.Int64N(5), 2, s.Int64N(3))
		both := Mul(p, q)
		checkNumber(t, "total", Total(both), frac(1, 1))
		checkNumber(t, "mean of a sum", Mean(both), rational.Add(Mean(p), Mean(q)))
		check(t, "probabilities of a sum", both, product(p, q))
	}
}

// The number of heads in n tosses of a coin.
func TestTosses(t *testing.T) {
	const n = api.MaxTerms - 1
	heads, e := Pow(api.Poly{frac(3, 5), frac(2, 5)}, n)
	checkLimit(t, "Pow", heads, e, api.OK)
	checkNumber(t, "Total", Total(heads), frac(1, 1))
	checkNumber(t, "Mean", Mean(heads), frac(2*n, 5))
	checkNumber(t, "complement", rational.Complement(Prefix(heads, n)), heads[n])
}
