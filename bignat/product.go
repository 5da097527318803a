package bignat

import "credence/api"

// karatsubaDigits is the length of the shorter factor from which splitting is faster than long multiplication.
const karatsubaDigits = 48

// Mul returns a * b.
func Mul(a, b api.Nat) api.Nat {
	a, b = trim(a), trim(b)
	if len(a) < len(b) {
		a, b = b, a
	}
	half := (len(a) + 1) / 2
	switch {
	case len(b) == 0:
		return nil
	case len(b) < karatsubaDigits:
		return trim(longProduct(a, b))
	case len(b) <= half:
		return trim(pieceProduct(a, b))
	}
	return trim(splitProduct(a, b, half))
}

// longProduct multiplies every digit with every digit.
func longProduct(a, b api.Nat) api.Nat {
	out := make(api.Nat, len(a)+len(b))
	for i, d := range b {
		carry := uint64(0)
		for j, e := range a {
			carry += uint64(d)*uint64(e) + uint64(out[i+j])
			out[i+j] = uint32(carry)
			carry >>= digitBits
		}
		out[i+len(a)] = uint32(carry)
	}
	return out
}

// pieceProduct cuts the much longer a into pieces of the length of b, so that the factors of each product are balanced.
func pieceProduct(a, b api.Nat) api.Nat {
	out := make(api.Nat, len(a)+len(b))
	for i := 0; i < len(a); i += len(b) {
		addTo(out[i:], Mul(a[i:min(i+len(b), len(a))], b))
	}
	return out
}

// splitProduct is Karatsuba's method: three products of numbers with half of the digits. Both factors must have more than half digits.
func splitProduct(a, b api.Nat, half int) api.Nat {
	low := Mul(a[:half], b[:half])
	high := Mul(a[half:], b[half:])
	middle := Mul(Add(a[:half], a[half:]), Add(b[:half], b[half:]))
	subtractFrom(middle, low)
	subtractFrom(middle, high)
	out := make(api.Nat, len(a)+len(b))
	copy(out, low)
	copy(out[2*half:], high)
	addTo(out[half:], trim(middle))
	return out
}
