package checksum

import (
	"hash/crc32"
	"hash/fnv"
	"math/rand/v2"
	"testing"
)

// newSource returns a source that gives the same numbers in every run.
func newSource(seed uint64) *rand.Rand {
	return rand.New(rand.NewPCG(seed, 5))
}

// randomBytes returns n bytes.
func randomBytes(s *rand.Rand, n int) []byte {
	out := make([]byte, n)
	for i := range out {
		out[i] = byte(s.Uint32())
	}
	return out
}

// flip inverts bit i of b, counted from the least significant bit of the first byte.
func flip(b []byte, i int) {
	b[i/8] ^= 1 << (i % 8)
}

// wantExtended is ExtendCRC as P5.1 describes it, one bit after the other.
func wantExtended(crc uint32, b []byte) uint32 {
	register := ^crc
	for _, x := range b {
		register ^= uint32(x)
		for range 8 {
			out := register % 2
			register /= 2
			if out == 1 {
				register ^= 0x82f63b78
			}
		}
	}
	return ^register
}

// libraryExtended is ExtendCRC of the standard library.
func libraryExtended(crc uint32, b []byte) uint32 {
	return crc32.Update(crc, crc32.MakeTable(crc32.Castagnoli), b)
}

// libraryHash is Hash of the standard library.
func libraryHash(b []byte) uint64 {
	h := fnv.New64a()
	h.Write(b)
	return h.Sum64()
}

// checkCRC fails the test if got is not want.
func checkCRC(t *testing.T, what string, got, want uint32) {
	t.Helper()
	if got != want {
		t.Fatalf("%s: got %08x, want %08x", what, got, want)
	}
}

// checkHash fails the test if got is not want.
func checkHash(t *testing.T, what string, got, want uint64) {
	t.Helper()
	if got != want {
		t.Fatalf("%s: got %016x, want %016x", what, got, want)
	}
}
