package rational

import (
	"credence/api"
	"credence/bignat"
)

// Add returns a + b.
func Add(a, b api.Frac) api.Frac {
	a, b = defined(a), defined(b)
	x, y := bignat.Mul(a.Num, b.Den), bignat.Mul(b.Num, a.Den)
	den := bignat.Mul(a.Den, b.Den)
	if a.Neg == b.Neg {
		return reduce(a.Neg, bignat.Add(x, y), den)
	}
	if num, ok := bignat.Sub(x, y); ok {
		return reduce(a.Neg, num, den)
	}
	num, _ := bignat.Sub(y, x)
	return reduce(b.Neg, num, den)
}

// defined returns a, or 0/1 if the denominator of a is 0. The result may share the memory of a.
func defined(a api.Frac) api.Frac {
	if isZero(a.Den) {
		return integer(0)
	}
	return a
}

// Sub returns a - b.
func Sub(a, b api.Frac) api.Frac {
	b.Neg = !b.Neg
	return Add(a, b)
}

// Mul returns a * b.
func Mul(a, b api.Frac) api.Frac {
	return reduce(a.Neg != b.Neg, bignat.Mul(a.Num, b.Num), bignat.Mul(a.Den, b.Den))
}

// Div returns a/b. It returns ErrDivide if b is 0.
func Div(a, b api.Frac) (api.Frac, api.Errno) {
	if Sign(b) == 0 {
		return api.Frac{}, api.ErrDivide
	}
	b.Num, b.Den = b.Den, b.Num
	return Mul(a, b), api.OK
}

// Neg returns -a.
func Neg(a api.Frac) api.Frac {
	return reduce(!a.Neg, a.Num, a.Den)
}

// Complement returns 1 - a.
func Complement(a api.Frac) api.Frac {
	return Sub(integer(1), a)
}

// Sum returns the sum of all elements of l.
func Sum(l []api.Frac) api.Frac {
	return fold(l, integer(0), Add)
}

// Product returns the product of all elements of l.
func Product(l []api.Frac) api.Frac {
	return fold(l, integer(1), Mul)
}

// fold combines the elements of l, or returns empty if there are none. It combines halves, so that only few of the steps have long operands.
func fold(l []api.Frac, empty api.Frac, combine func(a, b api.Frac) api.Frac) api.Frac {
	switch len(l) {
	case 0:
		return empty
	case 1:
		return Normalize(l[0])
	}
	half := len(l) / 2
	return combine(fold(l[:half], empty, combine), fold(l[half:], empty, combine))
}
