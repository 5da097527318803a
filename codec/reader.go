package codec

import (
	"bytes"

	"credence/api"
	"credence/rational"
)

// maxGroups is the number of bytes that a uint64 needs at most.
const maxGroups = 10

// Reader reads a byte string from its beginning.
type Reader struct {
	// rest holds the unread bytes. After an error there are none, so that no method finds anything to read.
	rest []byte
	err  api.Errno
}

// NewReader returns a Reader of a copy of b.
func NewReader(b []byte) *Reader {
	return &Reader{rest: bytes.Clone(b)}
}

// Remaining returns the number of unread bytes, or 0 after an error.
func (r *Reader) Remaining() int {
	return len(r.rest)
}

// Err returns the first error.
func (r *Reader) Err() api.Errno {
	return r.err
}

// fail keeps e unless there was an error before, and drops the unread bytes.
func (r *Reader) fail(e api.Errno) {
	if r.err == api.OK {
		r.err = e
	}
	r.rest = nil
}

// Uint reads a number written by EncodeUint that is at most max.
func (r *Reader) Uint(max uint64) uint64 {
	n, size, e := parseUint(r.rest)
	if e == api.OK && n > max {
		e = api.ErrTooLarge
	}
	if e != api.OK {
		r.fail(e)
		return 0
	}
	r.rest = r.rest[size:]
	return n
}

// parseUint returns the number at the beginning of b and how many bytes it takes.
func parseUint(b []byte) (n uint64, size int, e api.Errno) {
	for i, x := range b[:min(len(b), maxGroups)] {
		group := uint64(x &^ more)
		shift := i * groupBits
		n |= group << shift
		if x >= more {
			continue
		}
		overflow := n>>shift != group
		if longer := i > 0 && x == 0; overflow || longer {
			return 0, 0, api.ErrSyntax
		}
		return n, i + 1, api.OK
	}
	if len(b) < maxGroups {
		return 0, 0, api.ErrTruncated
	}
	return 0, 0, api.ErrSyntax
}

// Bytes reads a byte string written by EncodeBytes that has at most max bytes.
func (r *Reader) Bytes(max int) []byte {
	if max < 0 {
		max = 0
	}
	// The length is at most max, so that it fits an int.
	return r.Raw(int(r.Uint(uint64(max))))
}

// Raw reads n bytes; a negative n counts as 0.
func (r *Reader) Raw(n int) []byte {
	n = max(n, 0)
	if n > len(r.rest) {
		r.fail(api.ErrTruncated)
		return nil
	}
	out := bytes.Clone(r.rest[:n])
	r.rest = r.rest[n:]
	return out
}

// Nat reads a number written by EncodeNat.
func (r *Reader) Nat() api.Nat {
	big := r.Bytes(api.MaxNatBits / 8)
	if len(big) == 0 {
		return nil
	}
	if big[0] == 0 {
		r.fail(api.ErrSyntax)
		return nil
	}
	a := make(api.Nat, (len(big)+3)/4)
	for i, x := range big {
		place := len(big) - 1 - i
		a[place/4] |= uint32(x) << (8 * (place % 4))
	}
	return a
}

// Frac reads a fraction written by EncodeFrac.
func (r *Reader) Frac() api.Frac {
	sign := r.Raw(1)
	if len(sign) == 0 {
		return api.Frac{}
	}
	if sign[0] > 1 {
		r.fail(api.ErrSyntax)
		return api.Frac{}
	}
	a := api.Frac{Neg: sign[0] == 1}
	a.Num = r.Nat()
	a.Den = r.Nat()
	if r.err == api.OK && !rational.IsCanonical(a) {
		r.fail(api.ErrSyntax)
	}
	if r.err != api.OK {
		return api.Frac{}
	}
	return a
}
