package bignat

import (
	"math/bits"

	"credence/api"
)

// GCD returns the greatest common divisor of a and b; GCD(a, 0) is a.
func GCD(a, b api.Nat) api.Nat {
	a, b = trim(a), trim(b)
	if Cmp(a, b) < 0 {
		a, b = b, a
	}
	for len(b) > 2 {
		a, b = reduce(a, b)
	}
	if len(b) == 0 {
		return Normalize(a)
	}
	if len(a) > 2 {
		_, rest, _ := DivMod(a, b)
		a, b = b, rest
	}
	x, _ := Uint64(a)
	y, _ := Uint64(b)
	for y != 0 {
		x, y = y, x%y
	}
	return FromUint64(x)
}

// reduce does one or more steps of Euclid's algorithm; a is at least b, and b has more than two digits.
func reduce(a, b api.Nat) (api.Nat, api.Nat) {
	m, ok := leadingSteps(a, b)
	if !ok {
		_, rest, _ := DivMod(a, b)
		return b, rest
	}
	if m.odd {
		return combine(b, a, m.b0, m.a0), combine(a, b, m.a1, m.b1)
	}
	return combine(a, b, m.a0, m.b0), combine(b, a, m.b1, m.a1)
}

// steps describes steps of Euclid's algorithm: from a and b they lead to |a0*a - b0*b| and |a1*a - b1*b|. The first difference is negative after an odd number of steps, the second one after an even number.
type steps struct {
	a0, b0, a1, b1 uint64
	odd            bool
}

// leadingSteps finds steps from the highest 64 bits alone (Lehmer's method) and reports whether it found any. Collins' condition tells, one step later, that a quotient of these bits is that of the whole numbers; it also keeps all factors below 2^32.
func leadingSteps(a, b api.Nat) (steps, bool) {
	n := len(a)
	shift := bits.LeadingZeros32(a[n-1])
	x, y := leadingBits(a, n, shift), leadingBits(b, n, shift)
	// The last step of the loop is not confirmed yet, so that the count of steps starts at -1.
	m := steps{a1: 1, odd: true}
	nextA, nextB := uint64(0), uint64(1)
	for y >= nextB && x-y >= m.b1+nextB {
		quotient := x / y
		x, y = y, x%y
		m.a0, m.a1, nextA = m.a1, nextA, m.a1+quotient*nextA
		m.b0, m.b1, nextB = m.b1, nextB, m.b1+quotient*nextB
		m.odd = !m.odd
	}
	return m, m.b0 != 0
}

// leadingBits returns the 64 bits of a that end at digit n and begin shift bits below it.
func leadingBits(a api.Nat, n, shift int) uint64 {
	high := digitAt(a, n-1)<<digitBits | digitAt(a, n-2)
	return high<<shift | digitAt(a, n-3)>>(digitBits-shift)
}

// digitAt returns digit i of a, 0 beyond its end.
func digitAt(a api.Nat, i int) uint64 {
	if i < len(a) {
		return uint64(a[i])
	}
	return 0
}

// combine returns u*a - v*b, which is not negative and has no more digits than the longer number; u and v are below 2^32.
func combine(a, b api.Nat, u, v uint64) api.Nat {
	out := make(api.Nat, max(len(a), len(b)))
	plus, minus, borrow := uint64(0), uint64(0), uint64(0)
	for i := range out {
		plus += u * digitAt(a, i)
		minus += v * digitAt(b, i)
		t := uint64(uint32(plus)) - uint64(uint32(minus)) - borrow
		out[i] = uint32(t)
		plus >>= digitBits
		minus >>= digitBits
		borrow = t >> 63
	}
	return trim(out)
}
