package codec

import (
	"bytes"
	"encoding/binary"
	"math"
	"math/big"
	"math/rand/v2"
	"slices"
	"testing"

	"credence/api"
)

// model is a Reader by the definitions of P4.2, with numbers of the standard library.
type model struct {
	rest []byte
	err  api.Errno
}

// fail stops the model with an error.
func (m *model) fail(e api.Errno) {
	m.rest, m.err = nil, e
}

// readUint is Reader.Uint.
func (m *model) readUint(max uint64) uint64 {
	if m.err != api.OK {
		return 0
	}
	last := slices.IndexFunc(m.rest[:min(10, len(m.rest))], func(x byte) bool { return x < 0x80 })
	if last < 0 && len(m.rest) < 10 {
		m.fail(api.ErrTruncated)
		return 0
	}
	n := new(big.Int)
	for i := last; i >= 0; i-- {
		n.Lsh(n, 7)
		n.Add(n, big.NewInt(int64(m.rest[i]&0x7f)))
	}
	switch {
	case last < 0 || !n.IsUint64() || !bytes.Equal(binary.AppendUvarint(nil, n.Uint64()), m.rest[:last+1]):
		m.fail(api.ErrSyntax)
		return 0
	case n.Uint64() > max:
		m.fail(api.ErrTooLarge)
		return 0
	}
	m.rest = m.rest[last+1:]
	return n.Uint64()
}

// readBytes is Reader.Bytes.
func (m *model) readBytes(limit int) []byte {
	n := m.readUint(uint64(max(limit, 0)))
	if m.err != api.OK {
		return nil
	}
	return m.readRaw(int(n))
}

// readRaw is Reader.Raw.
func (m *model) readRaw(n int) []byte {
	n = max(n, 0)
	if m.err == api.OK && n > len(m.rest) {
		m.fail(api.ErrTruncated)
	}
	if m.err != api.OK {
		return nil
	}
	out := m.rest[:n]
	m.rest = m.rest[n:]
	return out
}

// readNat is Reader.Nat.
func (m *model) readNat() *big.Int {
	b := m.readBytes(8192)
	if len(b) > 0 && b[0] == 0 {
		m.fail(api.ErrSyntax)
		return new(big.Int)
	}
	return new(big.Int).SetBytes(b)
}

// readFrac is Reader.Frac; it returns nil if there is an error.
func (m *model) readFrac() *big.Rat {
	sign := m.readRaw(1)
	if m.err == api.OK && sign[0] > 1 {
		m.fail(api.ErrSyntax)
	}
	num, den := m.readNat(), m.readNat()
	if m.err != api.OK {
		return nil
	}
	if den.Sign() == 0 || num.Sign() == 0 && sign[0] == 1 || new(big.Int).GCD(nil, nil, num, den).Cmp(big.NewInt(1)) != 0 {
		m.fail(api.ErrSyntax)
		return nil
	}
	a := new(big.Rat).SetFrac(num, den)
	if sign[0] == 1 {
		a.Neg(a)
	}
	return a
}

// checkStep calls one method of both readers with the argument n, compares the results, and encodes what was read anew (P4.3).
func checkStep(t *testing.T, r *Reader, m *model, method int, n uint64) {
	t.Helper()
	var again []byte
	before := m.rest
	limit := int(n)
	switch method {
	case 0:
		got := r.Uint(n)
		if want := m.readUint(n); got != want {
			t.Fatalf("Uint(%d) of % x is %d, want %d", n, before, got, want)
		}
		again = EncodeUint(got)
	case 1:
		got := r.Bytes(limit)
		checkBytes(t, "Bytes", got, m.readBytes(limit))
		again = EncodeBytes(got)
	case 2:
		got := r.Nat()
		checkNat(t, "Nat", got, m.readNat())
		again = EncodeNat(got)
	case 3:
		got := r.Frac()
		if want := m.readFrac(); want != nil {
			checkFrac(t, "Frac", got, want)
		} else {
			checkZeroFrac(t, "Frac with an error", got)
		}
		again = EncodeFrac(got)
	default:
		got := r.Raw(limit)
		checkBytes(t, "Raw", got, m.readRaw(limit))
		again = got
	}
	checkState(t, "the reader", r, len(m.rest), m.err)
	if m.err == api.OK {
		checkBytes(t, "encoded again", again, before[:len(before)-len(m.rest)])
	}
}

// Every string of few bytes that matter, read by every method.
func TestAllShortStrings(t *testing.T) {
	some := []byte{0, 1, 2, 3, 0x7f, 0x80, 0x81, 0xff}
	level := [][]byte{nil}
	for range 5 {
		var longer [][]byte
		for _, b := range level {
			for method := range 5 {
				for _, n := range []uint64{0, 1, 2, 200, math.MaxUint64} {
					checkStep(t, NewReader(b), &model{rest: b}, method, n)
				}
			}
			for _, x := range some {
				longer = append(longer, append(bytes.Clone(b), x))
			}
		}
		level = longer
	}
}

// randomText returns encodings of random values, damaged more often than not.
func randomText(s *rand.Rand) []byte {
	var out []byte
	for range s.IntN(6) {
		switch s.IntN(5) {
		case 0:
			out = append(out, EncodeUint(randomUint(s))...)
		case 1:
			out = append(out, EncodeBytes(randomBytes(s, 20))...)
		case 2:
			out = append(out, EncodeNat(randomNat(s, 3))...)
		case 3:
			out = append(out, EncodeFrac(randomFrac(s, 2))...)
		default:
			out = append(out, randomBytes(s, 12)...)
		}
	}
	for range s.IntN(3) {
		if len(out) > 0 {
			out[s.IntN(len(out))] ^= 1 << s.IntN(8)
		}
	}
	if s.IntN(4) == 0 {
		out = out[:s.IntN(len(out)+1)]
	}
	return out
}

func TestRandomStrings(t *testing.T) {
	s := newSource(7)
	for range 30000 {
		b := randomText(s)
		r, m := NewReader(b), &model{rest: b}
		for range 8 {
			n := randomUint(s)
			if s.IntN(2) == 0 {
				n = uint64(s.IntN(24) - 4)
			}
			checkStep(t, r, m, s.IntN(5), n)
		}
	}
}

// Long runs of bytes with the top bit set reach the tenth byte of a number.
func TestRandomLongNumbers(t *testing.T) {
	s := newSource(8)
	for range 20000 {
		b := make([]byte, s.IntN(13))
		for i := range b {
			b[i] = byte(0x80 | s.Uint32())
			if s.IntN(12) == 0 {
				b[i] = byte(s.Uint32N(4))
			}
		}
		checkStep(t, NewReader(b), &model{rest: b}, 0, math.MaxUint64-uint64(s.IntN(2)))
	}
}

// What was written in one string is read back in the same order.
func TestRoundTrip(t *testing.T) {
	s := newSource(9)
	for range 500 {
		n, b, a, f := randomUint(s), randomBytes(s, 300), randomNat(s, 30), randomFrac(s, 8)
		r := NewReader(slices.Concat(EncodeFrac(f), EncodeUint(n), EncodeBytes(b), []byte{9}, EncodeNat(a)))
		checkFrac(t, "Frac", r.Frac(), bigFrac(f))
		if got := r.Uint(n); got != n {
			t.Fatalf("Uint of %d is %d", n, got)
		}
		checkBytes(t, "Bytes", r.Bytes(300), b)
		checkBytes(t, "Raw", r.Raw(1), []byte{9})
		checkNat(t, "Nat", r.Nat(), bigNat(a))
		checkState(t, "the end", r, 0, api.OK)
	}
}
