package poly

import (
	"credence/api"
	"credence/rational"
)

// Eval returns the value of p at x. It evaluates pairs of terms and proceeds with their values and the square of x, so that only few of the steps have long operands.
func Eval(p api.Poly, x api.Frac) api.Frac {
	p = trim(p)
	for len(p) > 2 {
		p = evalPairs(p, x)
		x = rational.Mul(x, x)
	}
	return evalPair(at(p, 0), at(p, 1), x)
}

// evalPairs returns the polynomial whose value at x*x is that of p at x.
func evalPairs(p api.Poly, x api.Frac) api.Poly {
	out := make(api.Poly, (len(p)+1)/2)
	for i := range out {
		out[i] = evalPair(p[2*i], at(p, 2*i+1), x)
	}
	return out
}

// evalPair returns a + b*x.
func evalPair(a, b, x api.Frac) api.Frac {
	return rational.Add(a, rational.Mul(b, x))
}

// Derivative returns the derivative of p.
func Derivative(p api.Poly) api.Poly {
	p = trim(p)
	if len(p) == 0 {
		return nil
	}
	out := make(api.Poly, len(p)-1)
	for i := range out {
		degree, _ := rational.New(int64(i)+1, 1)
		out[i] = rational.Mul(degree, p[i+1])
	}
	return out
}

// Total returns the value of p at 1.
func Total(p api.Poly) api.Frac {
	return rational.Sum(p)
}

// Mean returns the value of the derivative of p at 1.
func Mean(p api.Poly) api.Frac {
	return Total(Derivative(p))
}

// Prefix returns the sum of the coefficients of x^0 to x^(n-1).
func Prefix(p api.Poly, n int) api.Frac {
	return rational.Sum(first(p, n))
}
