package bignat

import "credence/api"

// Add returns a + b.
func Add(a, b api.Nat) api.Nat {
	a, b = trim(a), trim(b)
	if len(a) < len(b) {
		a, b = b, a
	}
	out := make(api.Nat, len(a)+1)
	copy(out, a)
	addTo(out, b)
	return trim(out)
}

// addTo adds b to a. The sum must fit into the digits of a.
func addTo(a, b api.Nat) {
	carry := uint64(0)
	for i, d := range b {
		carry += uint64(a[i]) + uint64(d)
		a[i] = uint32(carry)
		carry >>= digitBits
	}
	for i := len(b); carry != 0; i++ {
		carry += uint64(a[i])
		a[i] = uint32(carry)
		carry >>= digitBits
	}
}

// Sub returns a - b and true, or an empty Nat and false if b is greater than a.
func Sub(a, b api.Nat) (api.Nat, bool) {
	if Cmp(a, b) < 0 {
		return nil, false
	}
	out := Normalize(a)
	subtractFrom(out, trim(b))
	return trim(out), true
}

// subtractFrom subtracts b from a, which must be at least b.
func subtractFrom(a, b api.Nat) {
	borrow := uint64(0)
	for i, d := range b {
		t := uint64(a[i]) - uint64(d) - borrow
		a[i] = uint32(t)
		borrow = t >> 63
	}
	for i := len(b); borrow != 0; i++ {
		t := uint64(a[i]) - borrow
		a[i] = uint32(t)
		borrow = t >> 63
	}
}
