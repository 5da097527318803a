package pagestore

import (
	"bytes"
	"slices"
	"testing"

	"credence/api"
)

// torn returns what a torn write leaves: the first n bytes of b, and behind them those of before.
func torn(b, before []byte, n int) []byte {
	return slices.Concat(b[:n], before[n:])
}

// Of the contents that torn writes of a header and of zeros leave in turns, only the whole header counts.
func TestTornHeaders(t *testing.T) {
	zeros := make([]byte, api.SectorSize)
	var versions []int
	for _, n := range []int{1, 1 << 8, 1 << 16, 1 << 24, 1<<24 + 1<<8, 1<<31 - 1} {
		for k := max(1, n-2); k < n+3 && k < 1<<31; k++ {
			versions = append(versions, k)
		}
	}
	for _, version := range versions {
		head := header(version, 40, []byte("some pages"))
		check := func(contents []byte) {
			got := headerVersion(contents)
			if got != 0 && (got != version || !bytes.Equal(contents, head)) {
				t.Fatalf("version %d: % x counts as version %d", version, contents, got)
			}
		}
		if headerVersion(head) != version || headerVersion(zeros) != 0 {
			t.Fatalf("version %d: got %d, and %d for zeros", version, headerVersion(head), headerVersion(zeros))
		}
		for i := range api.SectorSize + 1 {
			part := torn(head, zeros, i)
			check(part)
			for j := range api.SectorSize + 1 {
				erased := torn(zeros, part, j)
				check(erased)
				check(torn(zeros, erased, 5))
			}
		}
	}
}

// The mark may be torn if there is nothing else.
func TestTornMark(t *testing.T) {
	for n := range api.SectorSize + 1 {
		d := newDisk(t, 33)
		checkErrno(t, "Write", d.Write(0, mark()[:n]), api.OK)
		s := mustOpen(t, d, 0, 33)
		checkEmpty(t, s)
		mustCommit(t, s, 1)

		d = newDisk(t, 33)
		checkErrno(t, "Write", d.Write(0, mark()[:n]), api.OK)
		checkErrno(t, "Write", d.Write(32, []byte{1}), api.OK)
		if whole := bytes.Equal(mark()[:n], mark()); whole {
			checkEmpty(t, mustOpen(t, d, 0, 33))
		} else {
			checkNoStore(t, d, 0, 33, api.ErrSyntax)
		}
	}
}
