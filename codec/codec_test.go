package codec

import (
	"bytes"
	"encoding/binary"
	"math"
	"math/big"
	"slices"
	"testing"

	"credence/api"
)

func TestEncodeUint(t *testing.T) {
	for _, x := range []struct {
		n    uint64
		want []byte
	}{
		{0, []byte{0}}, {1, []byte{1}}, {127, []byte{0x7f}}, {128, []byte{0x80, 1}}, {129, []byte{0x81, 1}}, {300, []byte{0xac, 2}},
		{1<<14 - 1, []byte{0xff, 0x7f}}, {1 << 14, []byte{0x80, 0x80, 1}},
		{1<<63 - 1, []byte{0xff, 0xff, 0xff, 0xff, 0xff, 0xff, 0xff, 0xff, 0x7f}},
		{1 << 63, []byte{0x80, 0x80, 0x80, 0x80, 0x80, 0x80, 0x80, 0x80, 0x80, 1}},
		{math.MaxUint64, []byte{0xff, 0xff, 0xff, 0xff, 0xff, 0xff, 0xff, 0xff, 0xff, 1}},
	} {
		checkBytes(t, "EncodeUint", EncodeUint(x.n), x.want)
	}
}

// The groups of an encoding add up to the number, all but the last byte have the top bit set, and the last group is needed.
func TestEncodeUintForm(t *testing.T) {
	s := newSource(1)
	for range 20000 {
		n := randomUint(s)
		got := EncodeUint(n)
		checkBytes(t, "EncodeUint", got, binary.AppendUvarint(nil, n))
		sum, last := new(big.Int), len(got)-1
		for i, x := range got {
			if i < last != (x >= 0x80) || i == last && i > 0 && x == 0 {
				t.Fatalf("EncodeUint(%d) is % x", n, got)
			}
			group := big.NewInt(int64(x & 0x7f))
			sum.Add(sum, group.Lsh(group, uint(7*i)))
		}
		if sum.Cmp(new(big.Int).SetUint64(n)) != 0 {
			t.Fatalf("the groups of EncodeUint(%d) make %v", n, sum)
		}
	}
}

func TestEncodeBytes(t *testing.T) {
	checkBytes(t, "EncodeBytes", EncodeBytes(nil), []byte{0})
	checkBytes(t, "EncodeBytes", EncodeBytes([]byte{}), []byte{0})
	checkBytes(t, "EncodeBytes", EncodeBytes([]byte{0}), []byte{1, 0})
	checkBytes(t, "EncodeBytes", EncodeBytes([]byte("hello")), []byte("\x05hello"))
	for _, n := range []int{127, 128, 300, 16383, 16384, 70000} {
		b := bytes.Repeat([]byte{1, 200, 3}, n)[:n]
		checkBytes(t, "EncodeBytes", EncodeBytes(b), wantBytes(b))
	}
}

func TestEncodeNat(t *testing.T) {
	for _, x := range []struct {
		a    api.Nat
		want []byte
	}{
		{nil, []byte{0}}, {api.Nat{}, []byte{0}}, {api.Nat{0, 0, 0}, []byte{0}},
		{api.Nat{1}, []byte{1, 1}}, {api.Nat{255, 0}, []byte{1, 255}}, {api.Nat{256}, []byte{2, 1, 0}},
		{api.Nat{0x01020304}, []byte{4, 1, 2, 3, 4}}, {api.Nat{0xffffff}, []byte{3, 255, 255, 255}},
		{api.Nat{0x05060708, 0x0304, 0, 0}, []byte{6, 3, 4, 5, 6, 7, 8}}, {api.Nat{0, 1}, []byte{5, 1, 0, 0, 0, 0}},
	} {
		checkBytes(t, "EncodeNat", EncodeNat(x.a), x.want)
	}
	s := newSource(2)
	for range 2000 {
		a := randomNat(s, 40)
		checkBytes(t, "EncodeNat", EncodeNat(a), wantNat(bigNat(a)))
	}
}

// Numbers that are too large to be read are written all the same.
func TestEncodeLongNumbers(t *testing.T) {
	long := slices.Repeat(api.Nat{all, 1, 0, 0x80000000}, 1500)
	checkBytes(t, "EncodeNat", EncodeNat(long), wantNat(bigNat(long)))
	a := api.Frac{Neg: true, Num: long, Den: api.Nat{1 << 20}}
	checkBytes(t, "EncodeFrac", EncodeFrac(a), wantFrac(bigFrac(a)))
}

func TestEncodeFrac(t *testing.T) {
	zero := []byte{0, 0, 1, 1}
	for _, x := range []struct {
		a    api.Frac
		want []byte
	}{
		{api.Frac{}, zero}, {api.Frac{Neg: true}, zero}, {api.Frac{Den: api.Nat{7}}, zero}, {api.Frac{Neg: true, Den: api.Nat{1}}, zero},
		{api.Frac{Neg: true, Num: api.Nat{5}}, zero}, {api.Frac{Num: api.Nat{5}, Den: api.Nat{0, 0}}, zero},
		{api.Frac{Num: api.Nat{1}, Den: api.Nat{1}}, []byte{0, 1, 1, 1, 1}},
		{api.Frac{Neg: true, Num: api.Nat{3}, Den: api.Nat{4}}, []byte{1, 1, 3, 1, 4}},
		{api.Frac{Neg: true, Num: api.Nat{6, 0}, Den: api.Nat{4, 0, 0}}, []byte{1, 1, 3, 1, 2}},
		{api.Frac{Num: api.Nat{0x1000}, Den: api.Nat{0x1001}}, []byte{0, 2, 0x10, 0, 2, 0x10, 1}},
	} {
		checkBytes(t, "EncodeFrac", EncodeFrac(x.a), x.want)
	}
	s := newSource(3)
	for range 2000 {
		a := randomFrac(s, 6)
		checkBytes(t, "EncodeFrac", EncodeFrac(a), wantFrac(bigFrac(a)))
	}
}

// The arguments, with their spare capacity, stay as they are, and no result is a part of one.
func TestEncodeMemory(t *testing.T) {
	b := []byte("\x03abc....")
	digits := api.Nat{6, 0, 99, 99, 4, 0, 77, 77}
	a := api.Frac{Neg: true, Num: digits[:2], Den: digits[4:6]}
	clear(EncodeBytes(b[:3]))
	clear(EncodeBytes(b[:0]))
	clear(EncodeNat(a.Num))
	clear(EncodeFrac(a))
	checkBytes(t, "the bytes", b, []byte("\x03abc...."))
	if !slices.Equal(digits, api.Nat{6, 0, 99, 99, 4, 0, 77, 77}) {
		t.Error("digits were modified", digits)
	}
}
