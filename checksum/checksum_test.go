package checksum

import (
	"bytes"
	"math"
	"math/big"
	"slices"
	"testing"
)

// The values are those of RFC 3720 and of catalogues of checksums.
func TestCRC(t *testing.T) {
	ascending := make([]byte, 32)
	for i := range ascending {
		ascending[i] = byte(i)
	}
	descending := bytes.Clone(ascending)
	slices.Reverse(descending)
	for _, x := range []struct {
		b    []byte
		want uint32
	}{
		{nil, 0}, {[]byte{}, 0}, {[]byte{0}, 0x527d5351}, {[]byte{255}, 0xff000000}, {[]byte("a"), 0xc1d04330},
		{[]byte("abc"), 0x364b3fb7}, {[]byte("123456789"), 0xe3069283},
		{make([]byte, 32), 0x8a9136aa}, {bytes.Repeat([]byte{255}, 32), 0x62a8ab43},
		{ascending, 0x46dd794e}, {descending, 0x113fdb5c},
	} {
		checkCRC(t, "CRC", CRC(x.b), x.want)
	}
}

func TestHash(t *testing.T) {
	for _, x := range []struct {
		b    []byte
		want uint64
	}{
		{nil, 14695981039346656037}, {[]byte{}, 14695981039346656037}, {[]byte{0}, 0xaf63bd4c8601b7df},
		{[]byte("a"), 0xaf63dc4c8601ec8c}, {[]byte("b"), 0xaf63df4c8601f1a5}, {[]byte("foobar"), 0x85944171f73967e8},
	} {
		checkHash(t, "Hash", Hash(x.b), x.want)
	}
}

// Each single byte, and strings of all lengths up to some sectors.
func TestLengths(t *testing.T) {
	for x := range 256 {
		b := []byte{byte(x)}
		checkCRC(t, "CRC of a byte", CRC(b), wantExtended(0, b))
		checkHash(t, "Hash of a byte", Hash(b), libraryHash(b))
	}
	s := newSource(1)
	for n := range 300 {
		for _, b := range [][]byte{randomBytes(s, n), make([]byte, n), bytes.Repeat([]byte{255}, n)} {
			checkCRC(t, "CRC", CRC(b), wantExtended(0, b))
			checkCRC(t, "CRC", CRC(b), libraryExtended(0, b))
			checkHash(t, "Hash", Hash(b), libraryHash(b))
		}
	}
}

func TestLongStrings(t *testing.T) {
	s := newSource(2)
	for _, n := range []int{1 << 16, 1<<20 + 13} {
		b := randomBytes(s, n)
		checkCRC(t, "CRC", CRC(b), libraryExtended(0, b))
		checkCRC(t, "ExtendCRC", ExtendCRC(CRC(b[:n/3]), b[n/3:]), libraryExtended(0, b))
		checkHash(t, "Hash", Hash(b), libraryHash(b))
	}
}

// A checksum is continued at every place, also before the first and behind the last byte, and in many steps.
func TestExtendParts(t *testing.T) {
	s := newSource(3)
	for n := range 50 {
		b := randomBytes(s, n)
		steps := CRC(nil)
		for k := range n + 1 {
			checkCRC(t, "ExtendCRC", ExtendCRC(CRC(b[:k]), b[k:]), CRC(b))
			checkCRC(t, "ExtendCRC by bytes", steps, CRC(b[:k]))
			if k < n {
				steps = ExtendCRC(steps, b[k:k+1])
			}
		}
	}
}

// Any number may be continued.
func TestExtendAnyNumber(t *testing.T) {
	checkCRC(t, "ExtendCRC", ExtendCRC(math.MaxUint32, []byte{0}), math.MaxUint32)
	checkCRC(t, "ExtendCRC", ExtendCRC(math.MaxUint32, []byte{1}), ^uint32(0xf26b8303))
	s := newSource(4)
	numbers := []uint32{0, 1, 1 << 31, math.MaxInt32, math.MaxUint32 - 1, math.MaxUint32, castagnoli}
	for range 500 {
		numbers = append(numbers, s.Uint32())
	}
	for _, crc := range numbers {
		checkCRC(t, "ExtendCRC by nothing", ExtendCRC(crc, nil), crc)
		checkCRC(t, "ExtendCRC by nothing", ExtendCRC(crc, []byte{}), crc)
		b := randomBytes(s, 1+s.IntN(40))
		checkCRC(t, "ExtendCRC", ExtendCRC(crc, b), wantExtended(crc, b))
		checkCRC(t, "ExtendCRC", ExtendCRC(crc, b), libraryExtended(crc, b))
	}
}

// The hash is the remainder of a computation with numbers that do not wrap around.
func TestHashDefinition(t *testing.T) {
	modulus := new(big.Int).Lsh(big.NewInt(1), 64)
	s := newSource(5)
	for range 500 {
		b := randomBytes(s, s.IntN(60))
		want := new(big.Int).SetUint64(14695981039346656037)
		for _, x := range b {
			want.Xor(want, big.NewInt(int64(x)))
			want.Mul(want, big.NewInt(1099511628211))
			want.Mod(want, modulus)
		}
		checkHash(t, "Hash", Hash(b), want.Uint64())
	}
}

// The argument and its spare capacity stay as they are, and neither bytes behind the argument nor earlier calls count.
func TestArguments(t *testing.T) {
	b := []byte("--123456789++")
	digits := b[2:11]
	for range 2 {
		checkCRC(t, "CRC", CRC(digits), 0xe3069283)
		checkCRC(t, "ExtendCRC", ExtendCRC(CRC(digits[:4]), digits[4:]), 0xe3069283)
		checkHash(t, "Hash", Hash(digits), libraryHash([]byte("123456789")))
	}
	if string(b) != "--123456789++" {
		t.Fatalf("the argument is now %q", b)
	}
}
