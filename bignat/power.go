package bignat

import (
	"math/bits"

	"credence/api"
)

// Pow returns a to the power n. It returns ErrInvalid if n is negative, ErrTooLarge if the result has more than MaxNatBits bits.
func Pow(a api.Nat, n int) (api.Nat, api.Errno) {
	if n < 0 {
		return nil, api.ErrInvalid
	}
	if n == 0 {
		return FromUint64(1), api.OK
	}
	size := BitLen(a)
	if size <= 1 {
		return Normalize(a), api.OK
	}
	// The result has more than (size-1)*n bits. This keeps huge powers from being computed.
	if size-1 > (api.MaxNatBits-1)/n {
		return nil, api.ErrTooLarge
	}
	out := power(a, n)
	if BitLen(out) > api.MaxNatBits {
		return nil, api.ErrTooLarge
	}
	return out, api.OK
}

// power computes a to the power n, n at least 1, from the binary digits of n.
func power(a api.Nat, n int) api.Nat {
	out := Normalize(a)
	for i := bits.Len(uint(n)) - 2; i >= 0; i-- {
		out = Mul(out, out)
		if n>>i&1 == 1 {
			out = Mul(out, a)
		}
	}
	return out
}
