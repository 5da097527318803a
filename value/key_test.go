package value

import (
	"bytes"
	"encoding/binary"
	"math"
	"slices"
	"strings"
	"testing"

	"credence/api"
)

func TestEncodeKey(t *testing.T) {
	for _, x := range []struct {
		l    []api.Value
		want string
	}{
		{nil, ""}, {[]api.Value{}, ""},
		{[]api.Value{NewInt(0)}, "\x01\x80\x00\x00\x00\x00\x00\x00\x00"},
		{[]api.Value{NewInt(1)}, "\x01\x80\x00\x00\x00\x00\x00\x00\x01"},
		{[]api.Value{NewInt(-1)}, "\x01\x7f\xff\xff\xff\xff\xff\xff\xff"},
		{[]api.Value{NewInt(0x0102030405060708)}, "\x01\x81\x02\x03\x04\x05\x06\x07\x08"},
		{[]api.Value{NewInt(math.MinInt64)}, "\x01\x00\x00\x00\x00\x00\x00\x00\x00"},
		{[]api.Value{NewInt(math.MaxInt64)}, "\x01\xff\xff\xff\xff\xff\xff\xff\xff"},
		{[]api.Value{NewString("")}, "\x02\x00"},
		{[]api.Value{NewString("it's")}, "\x02it's\x00"},
		{[]api.Value{NewString(""), NewString("")}, "\x02\x00\x02\x00"},
		{[]api.Value{NewString("~"), NewInt(-2), NewString("a b")}, "\x02~\x00\x01\x7f\xff\xff\xff\xff\xff\xff\xfe\x02a b\x00"},
	} {
		checkBytes(t, "EncodeKey", EncodeKey(x.l), []byte(x.want))
	}
}

// wantKey is the encoding of a list of valid values by the definition.
func wantKey(l []api.Value) []byte {
	var out []byte
	for _, v := range l {
		if v.Type == api.TypeInt {
			// Adding 2^63 modulo 2^64 inverts the sign bit.
			out = binary.BigEndian.AppendUint64(append(out, 1), uint64(v.Int)+1<<63)
		} else {
			out = append(out, "\x02"+v.Str+"\x00"...)
		}
	}
	return out
}

// checkKey checks the encoding of a list of valid values and that it is read back.
func checkKey(t *testing.T, l []api.Value) {
	t.Helper()
	key := EncodeKey(l)
	checkBytes(t, "EncodeKey", key, wantKey(l))
	back, e := DecodeKey(key)
	checkErrno(t, "DecodeKey", e, api.OK)
	checkList(t, "DecodeKey", back, l)
}

// checkNoKey fails the test if DecodeKey(b) is not an error.
func checkNoKey(t *testing.T, b []byte) {
	t.Helper()
	l, e := DecodeKey(b)
	if e != api.ErrSyntax || len(l) > 0 {
		t.Fatalf("DecodeKey of %d bytes, % .20x: got %#v and error %d", len(b), b, l, e)
	}
}

// The encoding of a list with an invalid value is empty, wherever that value is.
func TestEncodeInvalidValues(t *testing.T) {
	for _, v := range invalid() {
		for _, l := range [][]api.Value{{v}, {v, NewInt(1)}, {NewInt(1), v}, {NewString("a"), v, NewString("b")}, {v, v}} {
			checkBytes(t, "EncodeKey", EncodeKey(l), nil)
		}
	}
}

// All pairs of the empty list, the lists of one value and some lists of two.
func TestKeyOrder(t *testing.T) {
	l := [][]api.Value{nil}
	for i, a := range ascending() {
		l = append(l, []api.Value{a})
		for k, b := range ascending() {
			if (i+k)%4 == 0 {
				l = append(l, []api.Value{a, b})
			}
		}
	}
	keys := make([][]byte, len(l))
	for i, a := range l {
		checkKey(t, a)
		keys[i] = EncodeKey(a)
	}
	for i, a := range l {
		for k, b := range l {
			checkOrder(t, "the order of the keys", a, b, bytes.Compare(keys[i], keys[k]), wantOrder(a, b))
		}
	}
}

func TestRandomKeys(t *testing.T) {
	s := newSource(3)
	for range 20000 {
		a, b := randomList(s, 5), randomList(s, 5)
		if s.IntN(2) == 0 {
			b = append(slices.Clone(a[:s.IntN(len(a)+1)]), b...)
		}
		checkKey(t, a)
		checkKey(t, b)
		checkOrder(t, "the order of the keys", a, b, bytes.Compare(EncodeKey(a), EncodeKey(b)), wantOrder(a, b))
	}
}

func TestLongKeys(t *testing.T) {
	l := slices.Repeat(ascending(), 1000)
	checkKey(t, l)
	l[len(l)-1] = NewString("\n")
	checkBytes(t, "EncodeKey", EncodeKey(l), nil)
	checkNoKey(t, wantKey(l))
}

func TestDecodeKeyErrors(t *testing.T) {
	first := wantKey([]api.Value{NewInt(7), NewString("ab")})
	for _, s := range []string{
		"\x00", "\x03", "\x03\x00", "\x81", "\xff", "a", "1", "'a'", "\x01", "\x01\x80", "\x01\x80\x00\x00\x00\x00\x00\x00", "\x01\x80\x00\x00\x00\x00\x00\x00\x01\x00",
		"\x02", "\x02a", "\x02a\x02", "\x02\x01\x00", "\x02\x1f\x00", "\x02\x7f\x00", "\x02\x80\x00", "\x02\xff\x00", "\x02\u00e9\x00", "\x02a\nb\x00", "\x02\x02\x00", "\x02a\x00\x00", "\x02\x00\x00",
		"\x02" + strings.Repeat("a", api.MaxStringLen+1) + "\x00", "\x02" + strings.Repeat("a", 100000) + "\x00", "\x02" + strings.Repeat("a", 100000), strings.Repeat("\x02", 100000), strings.Repeat("\x00", 9),
		strings.Repeat("\x01", 10),
	} {
		checkNoKey(t, []byte(s))
		checkNoKey(t, append(bytes.Clone(first), s...))
		checkNoKey(t, append([]byte(s), first...))
	}
	checkList(t, "DecodeKey of nothing", decoded(t, nil), nil)
	checkList(t, "DecodeKey of nothing", decoded(t, []byte{}), nil)
}

// decoded returns the list whose encoding is b.
func decoded(t *testing.T, b []byte) []api.Value {
	t.Helper()
	l, e := DecodeKey(b)
	checkErrno(t, "DecodeKey", e, api.OK)
	return l
}

// Every byte as a tag, within an integer and within a string.
func TestDecodeKeyBytes(t *testing.T) {
	for c := range 256 {
		x := byte(c)
		for _, b := range [][]byte{{x}, {x, 0}, {x, 'a', 0}, {x, 1, 2, 3, 4, 5, 6, 7, 8}} {
			isInt, isString := x == 1 && len(b) == 9, x == 2 && (len(b) == 2 || len(b) == 3)
			if isInt || isString {
				checkBytes(t, "encoded again", EncodeKey(decoded(t, b)), b)
			} else {
				checkNoKey(t, b)
			}
		}
		for i := range 8 {
			b := []byte{1, 1, 2, 3, 4, 5, 6, 7, 8}
			b[1+i] = x
			n := int64(binary.BigEndian.Uint64(b[1:]) - 1<<63)
			checkList(t, "DecodeKey of an integer", decoded(t, b), []api.Value{NewInt(n)})
		}
		if b := []byte{2, 'a', x, 'b', 0}; 32 <= c && c <= 126 {
			checkList(t, "DecodeKey of a string", decoded(t, b), []api.Value{NewString(string(b[1:4]))})
		} else {
			checkNoKey(t, b)
		}
	}
}

// Every short string of bytes that matter is read if it is the encoding of a list, and only then.
func TestDecodeAllShortStrings(t *testing.T) {
	const alphabet, longest = "\x00\x01\x02\x03\x1f a~\x7f\x80", 5
	want := map[string][]api.Value{"": nil}
	// Integers need nine bytes, so that these keys consist of strings.
	last := want
	for len(last) > 0 {
		longer := map[string][]api.Value{}
		for key, l := range last {
			for _, s := range texts(" a~", longest-len(key)-2) {
				if key := key + "\x02" + s + "\x00"; len(key) <= longest {
					longer[key] = append(slices.Clone(l), NewString(s))
				}
			}
		}
		for key, l := range longer {
			want[key] = l
		}
		last = longer
	}
	for _, s := range texts(alphabet, longest) {
		if l, found := want[s]; found {
			checkList(t, "DecodeKey", decoded(t, []byte(s)), l)
		} else {
			checkNoKey(t, []byte(s))
		}
	}
}

// A damaged or cut encoding is an error, or the encoding of the list that is returned.
func TestDamagedKeys(t *testing.T) {
	s := newSource(4)
	for range 50000 {
		b := EncodeKey(randomList(s, 4))
		for range s.IntN(3) {
			if len(b) > 0 {
				b[s.IntN(len(b))] = byte([]uint32{0, 1, 2, s.Uint32()}[s.IntN(4)])
			}
		}
		b = b[:len(b)-s.IntN(len(b)+1)*s.IntN(2)]
		if l, e := DecodeKey(b); e == api.OK {
			checkBytes(t, "encoded again", wantKey(l), b)
		} else {
			checkNoKey(t, b)
		}
	}
}

// All proper prefixes of an encoding that do not end behind a value are errors.
func TestCutKeys(t *testing.T) {
	l := []api.Value{NewInt(300), NewString("a b"), NewString(""), NewInt(-1), NewString("~")}
	b := EncodeKey(l)
	for n := range len(b) + 1 {
		k := slices.IndexFunc([]int{0, 9, 14, 16, 25, 28}, func(end int) bool { return end == n })
		if k >= 0 {
			checkList(t, "DecodeKey", decoded(t, b[:n]), l[:k])
		} else {
			checkNoKey(t, b[:n])
		}
	}
}

// The arguments, with their spare capacity, stay as they are, are not kept, and no result is a part of one.
func TestMemory(t *testing.T) {
	l := []api.Value{NewInt(1), NewString("ab"), NewInt(3), NewInt(4)}
	key := EncodeKey(l[:2])
	clear(EncodeKey(l[:2]))
	clear(EncodeKey(l[:0]))
	checkBytes(t, "EncodeKey", key, wantKey(l[:2]))
	CompareTuples(l[:2], l[:1])
	checkList(t, "the list", l, []api.Value{NewInt(1), NewString("ab"), NewInt(3), NewInt(4)})

	b := append(bytes.Clone(key), "....."...)
	got := decoded(t, b[:len(key)])
	clear(decoded(t, b[:len(key)]))
	checkBytes(t, "the bytes", b, append(bytes.Clone(key), "....."...))
	for i := range b {
		b[i] = 'x'
	}
	checkList(t, "DecodeKey", got, l[:2])
}
