// Package bignat: arithmetic on natural numbers of arbitrary size.
//
// Arguments may have leading zero digits; every result is canonical and is new memory. The number 0 is nil.
package bignat

import (
	"math/bits"

	"credence/api"
)

const digitBits = 32

// trim returns the canonical part of a. It shares the memory of a.
func trim(a api.Nat) api.Nat {
	n := len(a)
	for n > 0 && a[n-1] == 0 {
		n--
	}
	if n == 0 {
		return nil
	}
	return a[:n]
}

// FromUint64 returns the number n.
func FromUint64(n uint64) api.Nat {
	return trim(api.Nat{uint32(n), uint32(n >> digitBits)})
}

// Normalize returns the canonical form of a.
func Normalize(a api.Nat) api.Nat {
	return append(api.Nat(nil), trim(a)...)
}

// Uint64 returns a as a uint64, or 0 and false if a does not fit.
func Uint64(a api.Nat) (uint64, bool) {
	a = trim(a)
	switch len(a) {
	case 0:
		return 0, true
	case 1:
		return uint64(a[0]), true
	case 2:
		return uint64(a[1])<<digitBits | uint64(a[0]), true
	}
	return 0, false
}

// BitLen returns the number of binary digits of a.
func BitLen(a api.Nat) int {
	a = trim(a)
	if len(a) == 0 {
		return 0
	}
	return (len(a)-1)*digitBits + bits.Len32(a[len(a)-1])
}

// Cmp returns -1, 0 or 1 if a is less than, equal to or greater than b.
func Cmp(a, b api.Nat) int {
	a, b = trim(a), trim(b)
	if len(a) != len(b) {
		return order(len(a) < len(b))
	}
	for i := len(a) - 1; i >= 0; i-- {
		if a[i] != b[i] {
			return order(a[i] < b[i])
		}
	}
	return 0
}

// order returns the result of a comparison of different numbers.
func order(less bool) int {
	if less {
		return -1
	}
	return 1
}
