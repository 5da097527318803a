package poly

import (
	"credence/api"
	"credence/bignat"
	"credence/rational"
)

// scaled is a polynomial with integer coefficients above one common denominator. The many products and sums that make up a product of polynomials need no reduction in this form.
type scaled struct {
	nums []integer
	den  api.Nat
}

// integer is -abs if neg is set, else abs; abs is canonical.
type integer struct {
	neg bool
	abs api.Nat
}

// Mul returns p * q.
func Mul(p, q api.Poly) api.Poly {
	return reduce(multiply(scale(p), scale(q)))
}

// Pow returns p to the power n. It returns ErrInvalid if n is negative, ErrTooLarge if n is above MaxTerms or the result has more than MaxTerms coefficients.
func Pow(p api.Poly, n int) (api.Poly, api.Errno) {
	if e := checkExponent(n); e != api.OK {
		return nil, e
	}
	p = trim(p)
	switch {
	case n == 0:
		return api.Poly{rational.Product(nil)}, api.OK
	case len(p)-1 > (api.MaxTerms-1)/n:
		return nil, api.ErrTooLarge
	}
	factor := scale(p)
	out := factor
	// With one factor at a time, all products are of long numbers with short ones; squares would need products of long numbers.
	for range n - 1 {
		out = multiply(out, factor)
	}
	return reduce(out), api.OK
}

// scale writes p with the least common denominator of its coefficients.
func scale(p api.Poly) scaled {
	p = Normalize(p)
	den := bignat.FromUint64(1)
	for _, a := range p {
		den = bignat.Mul(den, quotient(a.Den, bignat.GCD(den, a.Den)))
	}
	nums := make([]integer, len(p))
	for i, a := range p {
		nums[i] = integer{neg: a.Neg, abs: bignat.Mul(a.Num, quotient(den, a.Den))}
	}
	return scaled{nums: nums, den: den}
}

// quotient returns a/b for a divisor b of a.
func quotient(a, b api.Nat) api.Nat {
	q, _, _ := bignat.DivMod(a, b)
	return q
}

// reduce returns p in canonical form. A product of polynomials without trailing zero coefficients has none either, so that there are none to remove.
func reduce(p scaled) api.Poly {
	out := make(api.Poly, len(p.nums))
	for i, a := range p.nums {
		out[i] = rational.Normalize(api.Frac{Neg: a.neg, Num: a.abs, Den: p.den})
	}
	return out
}

// multiply returns p * q.
func multiply(p, q scaled) scaled {
	out := scaled{den: bignat.Mul(p.den, q.den)}
	if len(p.nums) == 0 || len(q.nums) == 0 {
		return out
	}
	out.nums = make([]integer, len(p.nums)+len(q.nums)-1)
	for k := range out.nums {
		out.nums[k] = coefficient(p.nums, q.nums, k)
	}
	return out
}

// coefficient returns the coefficient of x^k in p * q.
func coefficient(p, q []integer, k int) integer {
	var positive, negative api.Nat
	for i := max(0, k-len(q)+1); i <= min(k, len(p)-1); i++ {
		a, b := p[i], q[k-i]
		product := bignat.Mul(a.abs, b.abs)
		switch {
		case len(product) == 0:
		case a.neg == b.neg:
			positive = bignat.Add(positive, product)
		default:
			negative = bignat.Add(negative, product)
		}
	}
	return difference(positive, negative)
}

// difference returns a - b.
func difference(a, b api.Nat) integer {
	if abs, ok := bignat.Sub(a, b); ok {
		return integer{abs: abs}
	}
	abs, _ := bignat.Sub(b, a)
	return integer{neg: true, abs: abs}
}
