package checksum

import (
	"bytes"
	"math/bits"
	"testing"
)

// independent reports whether no XOR of one or more of the numbers is 0.
func independent(numbers []uint32) bool {
	var reduced [32]uint32 // the number with highest bit i, or 0
	for _, x := range numbers {
		for x != 0 && reduced[bits.Len32(x)-1] != 0 {
			x ^= reduced[bits.Len32(x)-1]
		}
		if x == 0 {
			return false
		}
		reduced[bits.Len32(x)-1] = x
	}
	return true
}

// Flipping a bit changes a CRC by a number that does not depend on the string, and the changes of several bits add up. So CRCs differ for all differences within 32 bits exactly if the changes of these bits are independent.
func TestCRCOfShortDifferences(t *testing.T) {
	s := newSource(6)
	for _, n := range []int{4, 5, 6, 30, 64} {
		b := randomBytes(s, n)
		changes := make([]uint32, 8*n)
		for i := range changes {
			c := bytes.Clone(b)
			flip(c, i)
			changes[i] = CRC(b) ^ CRC(c)
		}
		for first := range 8*n - 31 {
			if !independent(changes[first : first+32]) {
				t.Fatalf("some differences in bits %d to %d of %d bytes do not change the CRC", first, first+31, n)
			}
		}
		checkSum(t, n, changes)
	}
}

// checkSum checks that the changes of a random choice of bits of any n bytes add up.
func checkSum(t *testing.T, n int, changes []uint32) {
	s := newSource(7)
	for range 200 {
		b := randomBytes(s, n)
		c := bytes.Clone(b)
		want := CRC(b)
		for i, change := range changes {
			if s.IntN(2) == 0 {
				flip(c, i)
				want ^= change
			}
		}
		checkCRC(t, "the CRC after changes", CRC(c), want)
	}
}

// Differences of one or two bits, at all places within 32 bits, and random ones.
func TestCRCOfFlippedBits(t *testing.T) {
	s := newSource(8)
	for n := 1; n < 12; n++ {
		b := randomBytes(s, n)
		for i := range 8 * n {
			for j := i; j < min(i+32, 8*n); j++ {
				c := bytes.Clone(b)
				flip(c, i)
				if j > i {
					flip(c, j)
				}
				if CRC(b) == CRC(c) {
					t.Fatalf("% x and % x have the same CRC", b, c)
				}
			}
		}
	}
	for range 20000 {
		b := randomBytes(s, 4+s.IntN(60))
		c := bytes.Clone(b)
		first, pattern := s.IntN(8*len(b)-31), s.Uint32()|1
		for i := range 32 {
			if pattern>>i&1 == 1 {
				flip(c, first+i)
			}
		}
		if CRC(b) == CRC(c) {
			t.Fatalf("% x and % x have the same CRC", b, c)
		}
	}
}

// The difference may lie far before the end.
func TestCRCOfEarlyDifferences(t *testing.T) {
	b := randomBytes(newSource(9), 5000)
	c := bytes.Clone(b)
	for _, first := range []int{0, 1, 7, 8 * 2000, 8*4996 - 1, 8 * 4996} {
		for length := 1; length <= 32; length++ {
			flip(c, first+length-1)
			if CRC(b) == CRC(c) {
				t.Fatalf("a difference in bits %d to %d does not change the CRC", first, first+length-1)
			}
		}
		copy(c, b)
	}
}

// The 256 strings that differ in one byte only have different hashes and CRCs, wherever it is.
func TestDifferencesInOneByte(t *testing.T) {
	s := newSource(10)
	for _, n := range []int{1, 2, 7, 8, 9, 20, 64} {
		b := randomBytes(s, n)
		for i := range b {
			c := bytes.Clone(b)
			hashes, sums := map[uint64]bool{}, map[uint32]bool{}
			for x := range 256 {
				c[i] = byte(x)
				hashes[Hash(c)], sums[CRC(c)] = true, true
			}
			if len(hashes) != 256 || len(sums) != 256 {
				t.Fatalf("byte %d of %d: %d hashes and %d CRCs for 256 strings", i, n, len(hashes), len(sums))
			}
		}
	}
	b := randomBytes(s, 5000)
	c := bytes.Clone(b)
	for i := range b {
		c[i] ^= byte(1 + s.IntN(255))
		if Hash(b) == Hash(c) {
			t.Fatalf("a difference in byte %d of 5000 does not change the hash", i)
		}
		c[i] = b[i]
	}
}
