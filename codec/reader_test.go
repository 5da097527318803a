package codec

import (
	"bytes"
	"math"
	"math/big"
	"slices"
	"testing"

	"credence/api"
)

func TestNewReader(t *testing.T) {
	for _, n := range []int{0, 1, 200} {
		checkState(t, "a new reader", NewReader(make([]byte, n)), n, api.OK)
	}
	checkState(t, "a new reader", NewReader(nil), 0, api.OK)
}

func TestUint(t *testing.T) {
	const top = math.MaxUint64
	s := newSource(4)
	numbers := []uint64{0, 1, 127, 128, 300, 1<<14 - 1, 1 << 14, 1<<56 - 1, 1 << 56, 1<<63 - 1, 1 << 63, top - 1, top}
	for range 2000 {
		numbers = append(numbers, randomUint(s))
	}
	for _, n := range numbers {
		for _, limit := range []uint64{n, top, n / 2, max(n, 1) - 1} {
			r := NewReader(append(EncodeUint(n), 9, 200))
			want, remaining, e := n, 2, api.OK
			if n > limit {
				want, remaining, e = 0, 0, api.ErrTooLarge
			}
			if got := r.Uint(limit); got != want {
				t.Fatalf("Uint(%d) of %d is %d", limit, n, got)
			}
			checkState(t, "Uint", r, remaining, e)
		}
	}
}

func TestUintErrors(t *testing.T) {
	ones := bytes.Repeat([]byte{0xff}, 12)
	with := func(n int, rest ...byte) []byte { return slices.Concat(ones[:n], rest) }
	for _, x := range []struct {
		b    []byte
		max  uint64
		want api.Errno
	}{
		{nil, 5, api.ErrTruncated}, {[]byte{0x80}, 5, api.ErrTruncated}, {[]byte{0xff, 0x80}, 0, api.ErrTruncated},
		{ones[:9], math.MaxUint64, api.ErrTruncated}, {ones[:10], math.MaxUint64, api.ErrSyntax}, {ones[:11], 0, api.ErrSyntax},
		{with(10, 1), math.MaxUint64, api.ErrSyntax}, {bytes.Repeat([]byte{0x80}, 10), 5, api.ErrSyntax},
		{[]byte{0x80, 0}, 5, api.ErrSyntax}, {[]byte{0x81, 0}, 0, api.ErrSyntax}, {[]byte{0xac, 0x80, 0}, 1000, api.ErrSyntax},
		{with(9, 0), math.MaxUint64, api.ErrSyntax}, {with(9, 2), math.MaxUint64, api.ErrSyntax}, {with(9, 3), 0, api.ErrSyntax},
		{with(9, 0x41), math.MaxUint64, api.ErrSyntax}, {with(9, 0x7f), math.MaxUint64, api.ErrSyntax},
		{with(9, 1), math.MaxUint64, api.OK}, {with(9, 1), math.MaxUint64 - 1, api.ErrTooLarge}, {with(8, 0x7f), math.MaxInt64, api.OK},
		{[]byte{0}, 0, api.OK}, {[]byte{1}, 0, api.ErrTooLarge}, {[]byte{0x80, 1}, 127, api.ErrTooLarge},
	} {
		r := NewReader(x.b)
		n := r.Uint(x.max)
		checkState(t, "Uint", r, 0, x.want)
		if x.want != api.OK && n != 0 {
			t.Errorf("Uint of % x is %d with an error", x.b, n)
		}
	}
}

func TestBytes(t *testing.T) {
	for _, n := range []int{0, 1, 127, 128, 300, 70000} {
		b := bytes.Repeat([]byte{7, 0, 255}, n)[:n]
		for _, limit := range []int{n, n + 1, math.MaxInt} {
			r := NewReader(append(EncodeBytes(b), 5, 5, 5))
			checkBytes(t, "Bytes", r.Bytes(limit), b)
			checkState(t, "Bytes", r, 3, api.OK)
		}
	}
	r := NewReader([]byte{0, 0, 0, 1, 9})
	for _, limit := range []int{-1, math.MinInt, 0} {
		checkBytes(t, "Bytes without bytes", r.Bytes(limit), nil)
	}
	checkState(t, "Bytes without bytes", r, 2, api.OK)
}

func TestBytesErrors(t *testing.T) {
	huge := EncodeUint(math.MaxInt64)
	for _, x := range []struct {
		b    []byte
		max  int
		want api.Errno
	}{
		{nil, 3, api.ErrTruncated}, {[]byte{0x80}, 3, api.ErrTruncated}, {[]byte{0x82, 0, 1, 1}, 3, api.ErrSyntax},
		{[]byte{4, 1, 1, 1, 1}, 3, api.ErrTooLarge}, {[]byte{4}, 3, api.ErrTooLarge}, {[]byte{1, 1}, 0, api.ErrTooLarge},
		{[]byte{1, 1}, -1, api.ErrTooLarge}, {[]byte{1}, math.MinInt, api.ErrTooLarge},
		{[]byte{3, 1, 1}, 3, api.ErrTruncated}, {[]byte{1}, 1, api.ErrTruncated},
		{append(huge, 1, 2), math.MaxInt, api.ErrTruncated}, {append(huge, 1, 2), math.MaxInt - 1, api.ErrTooLarge},
		{append(EncodeUint(1<<63), 1), math.MaxInt, api.ErrTooLarge}, {append(EncodeUint(math.MaxUint64), 1), math.MaxInt, api.ErrTooLarge},
	} {
		r := NewReader(x.b)
		checkBytes(t, "Bytes with an error", r.Bytes(x.max), nil)
		checkState(t, "Bytes", r, 0, x.want)
	}
}

func TestRaw(t *testing.T) {
	r := NewReader([]byte{1, 2, 3, 4, 5})
	checkBytes(t, "Raw(2)", r.Raw(2), []byte{1, 2})
	for _, n := range []int{0, -1, math.MinInt} {
		checkBytes(t, "Raw of nothing", r.Raw(n), nil)
		checkState(t, "Raw of nothing", r, 3, api.OK)
	}
	checkBytes(t, "Raw(3)", r.Raw(3), []byte{3, 4, 5})
	checkBytes(t, "Raw(0) at the end", r.Raw(0), nil)
	checkState(t, "Raw", r, 0, api.OK)
	for _, n := range []int{4, math.MaxInt} {
		r = NewReader([]byte{1, 2, 3})
		checkBytes(t, "Raw behind the end", r.Raw(n), nil)
		checkState(t, "Raw behind the end", r, 0, api.ErrTruncated)
	}
}

func TestNat(t *testing.T) {
	s := newSource(5)
	for range 2000 {
		a := bigNat(randomNat(s, 20))
		r := NewReader(append(wantNat(a), 7))
		checkNat(t, "Nat", r.Nat(), a)
		checkState(t, "Nat", r, 1, api.OK)
	}
}

func TestNatErrors(t *testing.T) {
	for _, x := range []struct {
		b    []byte
		want api.Errno
	}{
		{nil, api.ErrTruncated}, {[]byte{0x80}, api.ErrTruncated}, {[]byte{2, 1}, api.ErrTruncated}, {[]byte{2, 0}, api.ErrTruncated},
		{[]byte{0x81, 0, 1}, api.ErrSyntax}, {[]byte{1, 0}, api.ErrSyntax}, {[]byte{2, 0, 1}, api.ErrSyntax}, {[]byte{5, 0, 1, 1, 1, 1}, api.ErrSyntax},
		{EncodeUint(8193), api.ErrTooLarge}, {EncodeUint(8192), api.ErrTruncated}, {EncodeBytes(make([]byte, 8192)), api.ErrSyntax},
		{EncodeBytes(make([]byte, 8193)), api.ErrTooLarge}, {EncodeUint(math.MaxUint64), api.ErrTooLarge},
	} {
		r := NewReader(x.b)
		if a := r.Nat(); len(a) > 0 {
			t.Errorf("Nat of % x is %v with an error", x.b, a)
		}
		checkState(t, "Nat", r, 0, x.want)
	}
}

// Numbers of MaxNatBits bits are read, longer ones are not.
func TestNumberLimits(t *testing.T) {
	longest := new(big.Int).Lsh(big.NewInt(1), api.MaxNatBits)
	tooLong := bigNat(append(make(api.Nat, api.MaxNatBits/32), 1))
	longest.Sub(longest, big.NewInt(1))
	r := NewReader(wantNat(longest))
	checkNat(t, "the longest number", r.Nat(), longest)
	checkState(t, "the longest number", r, 0, api.OK)
	r = NewReader(wantNat(tooLong))
	checkNat(t, "a number that is too long", r.Nat(), new(big.Int))
	checkState(t, "a number that is too long", r, 0, api.ErrTooLarge)

	power := new(big.Int).Lsh(big.NewInt(1), api.MaxNatBits-1)
	for _, x := range []struct {
		num, den *big.Int
		want     api.Errno
	}{
		{longest, power, api.OK}, {power, longest, api.OK}, {tooLong, longest, api.ErrTooLarge}, {longest, tooLong, api.ErrTooLarge},
	} {
		a := new(big.Rat).SetFrac(x.num, x.den)
		r := NewReader(wantFrac(a))
		got := r.Frac()
		checkState(t, "a long fraction", r, 0, x.want)
		if x.want == api.OK {
			checkFrac(t, "a long fraction", got, a)
		} else {
			checkZeroFrac(t, "a fraction that is too long", got)
		}
	}
}

func TestFrac(t *testing.T) {
	s := newSource(6)
	for range 2000 {
		a := bigFrac(randomFrac(s, 5))
		r := NewReader(append(wantFrac(a), 7, 7))
		checkFrac(t, "Frac", r.Frac(), a)
		checkState(t, "Frac", r, 2, api.OK)
	}
}

func TestFracErrors(t *testing.T) {
	tooLong := EncodeUint(8193)
	for _, x := range []struct {
		b    []byte
		want api.Errno
	}{
		{nil, api.ErrTruncated}, {[]byte{0}, api.ErrTruncated}, {[]byte{1, 1}, api.ErrTruncated}, {[]byte{0, 1, 1}, api.ErrTruncated}, {[]byte{0, 1, 1, 1}, api.ErrTruncated},
		{[]byte{2}, api.ErrSyntax}, {[]byte{2, 1, 1, 1, 1}, api.ErrSyntax}, {[]byte{0x80, 1, 1, 1, 1}, api.ErrSyntax}, {[]byte{255}, api.ErrSyntax},
		{[]byte{0, 1, 0, 1, 1}, api.ErrSyntax}, {[]byte{0, 2, 0, 1, 1, 1}, api.ErrSyntax}, {[]byte{0, 1, 1, 2, 0, 1}, api.ErrSyntax}, {[]byte{0, 0x81, 0, 1, 1, 1}, api.ErrSyntax},
		{slices.Concat([]byte{0}, tooLong), api.ErrTooLarge}, {slices.Concat([]byte{0, 1, 1}, tooLong), api.ErrTooLarge},
		{slices.Concat([]byte{2}, tooLong), api.ErrSyntax}, {slices.Concat([]byte{0, 1, 0}, tooLong), api.ErrSyntax}, {slices.Concat([]byte{0}, tooLong, []byte{1, 0}), api.ErrTooLarge},
		// Numbers that are not canonical: a denominator of 0, 0 with a sign or a denominator, common factors.
		{[]byte{0, 1, 1, 0}, api.ErrSyntax}, {[]byte{0, 0, 0}, api.ErrSyntax}, {[]byte{1, 1, 1, 0}, api.ErrSyntax},
		{[]byte{1, 0, 1, 1}, api.ErrSyntax}, {[]byte{0, 0, 1, 2}, api.ErrSyntax},
		{[]byte{0, 1, 2, 1, 4}, api.ErrSyntax}, {[]byte{1, 1, 3, 1, 3}, api.ErrSyntax}, {[]byte{0, 1, 15, 1, 9}, api.ErrSyntax},
	} {
		r := NewReader(x.b)
		checkZeroFrac(t, "Frac with an error", r.Frac())
		checkState(t, "Frac", r, 0, x.want)
	}
}

// After each kind of error, every method returns zero values, and the error stays.
func TestErrorStays(t *testing.T) {
	rest := []byte{0, 1, 1, 1, 1, 1}
	for _, x := range []struct {
		want api.Errno
		fail func(r *Reader)
	}{
		{api.ErrSyntax, func(r *Reader) { r.Uint(5) }},
		{api.ErrTooLarge, func(r *Reader) { r.Raw(2); r.Nat(); r.Uint(0) }},
		{api.ErrTruncated, func(r *Reader) { r.Raw(100) }},
	} {
		r := NewReader(slices.Concat([]byte{0x80, 0}, rest))
		x.fail(r)
		for range 2 {
			checkState(t, "after an error", r, 0, x.want)
			if n := r.Uint(math.MaxUint64); n != 0 {
				t.Fatal("Uint after an error returns", n)
			}
			checkBytes(t, "Bytes after an error", r.Bytes(9), nil)
			checkNat(t, "Nat after an error", r.Nat(), new(big.Int))
			checkZeroFrac(t, "Frac after an error", r.Frac())
			checkBytes(t, "Raw after an error", r.Raw(1), nil)
			checkBytes(t, "Raw(0) after an error", r.Raw(0), nil)
		}
		checkState(t, "after an error", r, 0, x.want)
	}
}

// The reader keeps a copy of its argument, and each result is a copy of what it read.
func TestReaderMemory(t *testing.T) {
	b := []byte("\x02ab\x01\x05cd\x00\x01\x03\x01\x04....")
	source := bytes.Clone(b)
	r := NewReader(b[:len(b)-4])
	for i := range b {
		b[i] = 0xff
	}
	first := r.Bytes(9)
	checkBytes(t, "Bytes", first, []byte("ab"))
	_ = append(first, "xxxxxxxxxx"...)
	clear(first)
	number := r.Nat()
	checkNat(t, "Nat", number, big.NewInt(5))
	_ = append(number, 1, 1, 1, 1)
	raw := r.Raw(2)
	checkBytes(t, "Raw", raw, []byte("cd"))
	_ = append(raw, "xxxxxxxxxx"...)
	checkFrac(t, "Frac", r.Frac(), big.NewRat(3, 4))
	checkState(t, "the end", r, 0, api.OK)

	again := NewReader(source)
	for again.Err() == api.OK {
		clear(again.Raw(3))
	}
	checkBytes(t, "the argument", source, []byte("\x02ab\x01\x05cd\x00\x01\x03\x01\x04...."))
}

// Two readers of the same bytes do not affect each other.
func TestReadersAreIndependent(t *testing.T) {
	b := []byte{1, 2, 3}
	first, second := NewReader(b), NewReader(b)
	first.Raw(9)
	checkState(t, "the second reader", second, 3, api.OK)
	clear(second.Raw(2))
	checkBytes(t, "a third reader", NewReader(b).Raw(3), []byte{1, 2, 3})
}
