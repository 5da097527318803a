package value

import (
	"bytes"

	"credence/api"
)

// A value in a key begins with a tag. The tags are ordered as the types are.
const (
	intTag    = 1
	stringTag = 2
)

// The end of a string is less than all bytes of valid strings, so that a prefix comes first.
const stringEnd = 0

// intLen is the number of bytes behind intTag.
const intLen = 8

// Inverting signBit makes the order of signed numbers that of unsigned ones.
const signBit = 1 << 63

// EncodeKey returns bytes that are ordered as CompareTuples orders the lists, or nothing if a value is invalid.
func EncodeKey(l []api.Value) []byte {
	var out []byte
	for _, v := range l {
		if !Valid(v) {
			return nil
		}
		out = appendValue(out, v)
	}
	return out
}

// appendValue appends the encoding of a valid value.
func appendValue(out []byte, v api.Value) []byte {
	if v.Type == api.TypeInt {
		return appendInt(append(out, intTag), v.Int)
	}
	out = append(out, stringTag)
	out = append(out, v.Str...)
	return append(out, stringEnd)
}

// appendInt appends the bytes of n, the most significant first.
func appendInt(out []byte, n int64) []byte {
	ordered := uint64(n) ^ signBit
	for i := range intLen {
		out = append(out, byte(ordered>>(8*(intLen-1-i))))
	}
	return out
}

// DecodeKey returns the list of valid values that EncodeKey encodes as b, or ErrSyntax if there is none.
func DecodeKey(b []byte) ([]api.Value, api.Errno) {
	var out []api.Value
	for len(b) > 0 {
		v, size := decodeValue(b)
		if !Valid(v) {
			return nil, api.ErrSyntax
		}
		out = append(out, v)
		b = b[size:]
	}
	return out, api.OK
}

// decodeValue returns the value at the beginning of b and how many bytes it takes. If there is none, the value is invalid.
func decodeValue(b []byte) (api.Value, int) {
	switch {
	case b[0] == intTag && len(b) > intLen:
		return NewInt(decodeInt(b[1 : 1+intLen])), 1 + intLen
	case b[0] == stringTag:
		if s, _, found := bytes.Cut(b[1:], []byte{stringEnd}); found {
			return NewString(string(s)), len(s) + 2
		}
	}
	return api.Value{}, 0
}

// decodeInt returns the number that appendInt writes as b.
func decodeInt(b []byte) int64 {
	ordered := uint64(0)
	for _, x := range b {
		ordered = ordered<<8 | uint64(x)
	}
	return int64(ordered ^ signBit)
}
