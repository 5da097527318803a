package bignat

import (
	"math/bits"

	"credence/api"
)

// DivMod returns the quotient and the remainder of a by b and true, or empty Nats and false if b is 0.
func DivMod(a, b api.Nat) (q, r api.Nat, ok bool) {
	a, b = trim(a), trim(b)
	switch {
	case len(b) == 0:
		return nil, nil, false
	case len(a) <= 2 && len(b) <= 2:
		x, _ := Uint64(a)
		y, _ := Uint64(b)
		return FromUint64(x / y), FromUint64(x % y), true
	case Cmp(a, b) < 0:
		return nil, Normalize(a), true
	case len(b) == 1:
		q = Normalize(a)
		r = FromUint64(uint64(divideByDigit(q, b[0])))
		return trim(q), r, true
	}
	q, r = longDivision(a, b)
	return trim(q), trim(r), true
}

// divideByDigit replaces a by its quotient by d and returns the remainder.
func divideByDigit(a api.Nat, d uint32) uint32 {
	rest := uint64(0)
	for i := len(a) - 1; i >= 0; i-- {
		rest = rest<<digitBits | uint64(a[i])
		a[i] = uint32(rest / uint64(d))
		rest %= uint64(d)
	}
	return uint32(rest)
}

// longDivision divides a by b (at least two digits, not greater than a) with one estimated quotient digit after another.
func longDivision(a, b api.Nat) (q, r api.Nat) {
	n := len(b)
	// With the highest bit of the divisor set, an estimate is at most 2 too large.
	shift := bits.LeadingZeros32(b[n-1])
	divisor := shiftLeft(b, shift)[:n]
	rest := shiftLeft(a, shift)
	q = make(api.Nat, len(a)-n+1)
	for i := len(q) - 1; i >= 0; i-- {
		part := rest[i : i+n+1]
		digit := estimateDigit(part, divisor)
		if subtractMultiple(part, divisor, digit) {
			digit--
			addBack(part, divisor)
		}
		q[i] = uint32(digit)
	}
	return q, shiftRight(rest[:n], shift)
}

// estimateDigit returns part / divisor or, rarely, 1 more, from the highest digits of both.
func estimateDigit(part, divisor api.Nat) uint64 {
	n := len(divisor)
	high, next := uint64(divisor[n-1]), uint64(divisor[n-2])
	top := uint64(part[n])<<digitBits | uint64(part[n-1])
	digit, rest := top/high, top%high
	for rest>>digitBits == 0 && (digit>>digitBits != 0 || digit*next > rest<<digitBits|uint64(part[n-2])) {
		digit--
		rest += high
	}
	return digit
}

// subtractMultiple subtracts divisor * digit from part, which has one digit more, and reports whether the result is negative. The highest digit of part is not read again, so it stays as it is.
func subtractMultiple(part, divisor api.Nat, digit uint64) bool {
	carry, borrow := uint64(0), uint64(0)
	for i, d := range divisor {
		carry += digit * uint64(d)
		t := uint64(part[i]) - uint64(uint32(carry)) - borrow
		part[i] = uint32(t)
		carry >>= digitBits
		borrow = t >> 63
	}
	return uint64(part[len(divisor)]) < carry+borrow
}

// addBack adds divisor to part. The carry out of the highest digit cancels the borrow that made part negative.
func addBack(part, divisor api.Nat) {
	carry := uint64(0)
	for i, d := range divisor {
		carry += uint64(part[i]) + uint64(d)
		part[i] = uint32(carry)
		carry >>= digitBits
	}
}

// shiftLeft returns a * 2^n, n below 32, with one digit more than a.
func shiftLeft(a api.Nat, n int) api.Nat {
	out := make(api.Nat, len(a)+1)
	carry := uint64(0)
	for i, d := range a {
		carry |= uint64(d) << n
		out[i] = uint32(carry)
		carry >>= digitBits
	}
	out[len(a)] = uint32(carry)
	return out
}

// shiftRight returns a / 2^n, n below 32, with as many digits as a.
func shiftRight(a api.Nat, n int) api.Nat {
	out := make(api.Nat, len(a))
	high := uint64(0)
	for i := len(a) - 1; i >= 0; i-- {
		high = high<<digitBits | uint64(a[i])
		out[i] = uint32(high >> n)
	}
	return out
}
