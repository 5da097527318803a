package pagestore

import (
	"bytes"
	"math"
	"slices"
	"testing"

	"credence/api"
	"credence/disk"
)

// checkNoStore checks that Open returns an error and nothing else.
func checkNoStore(t *testing.T, d *disk.Disk, from, to int, want api.Errno) {
	t.Helper()
	if s, e := Open(d, from, to); s != nil || e != want {
		t.Fatalf("Open(%d, %d): got error %d, want %d", from, to, e, want)
	}
}

// checkEmpty checks that a store is as it is before its first commit.
func checkEmpty(t *testing.T, s *Store) {
	t.Helper()
	if s.Version() != 0 || !slices.Equal(s.Versions(), []int{0}) {
		t.Fatalf("the empty store has version %d and versions %v", s.Version(), s.Versions())
	}
	checkPages(t, s, 0)
	checkPages(t, s, 1)
}

func TestOpenRange(t *testing.T) {
	d := newDisk(t, 64)
	for from := -3; from < 68; from++ {
		for to := -3; to < 68; to++ {
			if from >= 0 && from+32 <= to && to <= 64 {
				checkEmpty(t, mustOpen(t, d, from, to))
			} else {
				checkNoStore(t, d, from, to, api.ErrInvalid)
			}
		}
	}
	extremes := []int{math.MinInt, math.MinInt + 1, math.MinInt + 31, math.MinInt + 32, math.MaxInt - 32, math.MaxInt - 31, math.MaxInt}
	for _, x := range extremes {
		for _, y := range append(extremes, 0, 32, 64) {
			checkNoStore(t, d, x, y, api.ErrInvalid)
			checkNoStore(t, d, y, x, api.ErrInvalid)
		}
	}
	checkNoStore(t, newDisk(t, 31), 0, 31, api.ErrInvalid)
	checkEmpty(t, mustOpen(t, newDisk(t, 32), 0, 32))
	checkEmpty(t, mustOpen(t, newDisk(t, api.MaxSectors), 0, api.MaxSectors))
}

// The errors come in the order of P7.1.
func TestOpenErrorOrder(t *testing.T) {
	d := newDisk(t, 40)
	checkErrno(t, "Write", d.Write(20, []byte("other data")), api.OK)
	checkNoStore(t, d, 10, 41, api.ErrInvalid)
	checkNoStore(t, d, 0, 40, api.ErrSyntax)
	d.FailAfter(0)
	checkErrno(t, "Flush", d.Flush(), api.ErrOffline)
	checkNoStore(t, d, 10, 41, api.ErrInvalid)
	checkNoStore(t, d, 0, 40, api.ErrOffline)
	d.PowerOn()
	checkNoStore(t, d, 0, 40, api.ErrSyntax)
	d.Crash(0, -1)
	checkNoStore(t, d, 0, 40, api.ErrOffline)
	d.PowerOn()
	checkEmpty(t, mustOpen(t, d, 0, 40))
}

// A store that was not written by the package is not changed by Open, and what is pending stays so.
func TestOpenOtherContents(t *testing.T) {
	s := newSource(1)
	for at := range 40 {
		short, long := randomBytes(s, 1+s.IntN(10)), randomBytes(s, api.SectorSize)
		short[0] |= 1
		last := append(make([]byte, api.SectorSize-1), byte(1+s.IntN(255)))
		for _, b := range [][]byte{{1}, {255}, []byte("x"), []byte("credence"), short, long, last, bytes.Repeat([]byte{255}, 64)} {
			for _, flush := range []bool{false, true} {
				d := newDisk(t, 41)
				checkErrno(t, "Write", d.Write(at+1, b), api.OK)
				if flush {
					checkErrno(t, "Flush", d.Flush(), api.OK)
				}
				pending, before := d.Pending(), sectors(t, d)
				checkNoStore(t, d, 1, 41, api.ErrSyntax)
				if d.Pending() != pending || !bytes.Equal(sectors(t, d), before) {
					t.Fatal("Open with ErrSyntax changes the disk")
				}
			}
		}
	}
}

func TestOpenRandomContents(t *testing.T) {
	s := newSource(2)
	for range 100 {
		d := newDisk(t, 50)
		for at := range 50 {
			checkErrno(t, "Write", d.Write(at, randomBytes(s, s.IntN(65))), api.OK)
		}
		checkNoStore(t, d, s.IntN(5), 45+s.IntN(6), api.ErrSyntax)
	}
}

// What lies outside of the sectors of a store does not matter, and is not changed.
func TestOpenBetweenOtherContents(t *testing.T) {
	d := newDisk(t, 60)
	other := bytes.Repeat([]byte{7}, api.SectorSize)
	for _, at := range []int{0, 9, 50, 59} {
		checkErrno(t, "Write", d.Write(at, other), api.OK)
	}
	s := mustOpen(t, d, 10, 50)
	checkEmpty(t, s)
	if d.Pending() != 4 {
		t.Fatalf("Open of the empty store leaves %d pending writes", d.Pending())
	}
	for n := 1; n <= 6; n++ {
		mustPut(t, s, n, bytes.Repeat([]byte{byte(n)}, 50))
		mustCommit(t, s, n)
	}
	crash(d, 0, -1)
	for _, at := range []int{0, 9, 50, 59} {
		if b, _ := d.Read(at); !bytes.Equal(b, other) {
			t.Fatalf("sector %d is now % x", at, b)
		}
	}
	for _, at := range []int{1, 8, 51, 58} {
		if b, _ := d.Read(at); !bytes.Equal(b, make([]byte, api.SectorSize)) {
			t.Fatalf("sector %d is now % x", at, b)
		}
	}
	if again := mustOpen(t, d, 10, 50); image(again) != image(s) {
		t.Fatalf("got %s, want %s", image(again), image(s))
	}
}

// An opened store has the versions of the one before it, and a working copy that equals the last of them.
func TestOpenAgain(t *testing.T) {
	d := newDisk(t, 100)
	s := mustOpen(t, d, 0, 100)
	for n := 1; n <= 12; n++ {
		mustPut(t, s, n%5, bytes.Repeat([]byte{byte(n)}, 10*n))
		mustPut(t, s, 100+n, nil)
		if n%4 == 3 {
			checkErrno(t, "Delete", s.Delete(100+n), api.OK)
		}
		mustCommit(t, s, n)
		mustPut(t, s, 77, []byte("not committed"))
		again := mustOpen(t, d, 0, 100)
		if image(again) != image(s) || text(again, n+1) != text(s, n) || text(again, n+1) == text(s, n+1) {
			t.Fatalf("after Open of version %d:\n%s%s", n, image(again), text(again, n+1))
		}
		s = again
	}
}

// Whatever others do to the sectors of a store, Open returns a store or ErrSyntax, and the store works.
func TestOpenDamaged(t *testing.T) {
	s := newSource(3)
	for range 3000 {
		d := newDisk(t, 40)
		st := mustOpen(t, d, 0, 40)
		for n := range s.IntN(4) {
			mustPut(t, st, n, randomBytes(s, s.IntN(100)))
			mustCommit(t, st, n+1)
		}
		for range 1 + s.IntN(3) {
			at := s.IntN(6)
			b, _ := d.Read(at)
			for range 1 + s.IntN(2) {
				b[s.IntN(len(b))] ^= byte(1 + s.IntN(255))
			}
			checkErrno(t, "Write", d.Write(at, b), api.OK)
		}
		st, e := Open(d, 0, 40)
		if e == api.ErrSyntax && st == nil {
			continue
		}
		checkErrno(t, "Open", e, api.OK)
		n := st.Version()
		mustPut(t, st, 9, []byte("new"))
		mustCommit(t, st, n+1)
		checkPage(t, mustOpen(t, d, 0, 40), n+1, 9, []byte("new"))
	}
}

// Sectors that look like those of a store, with correct checksums, but hold something else.
func TestOpenForgedBodies(t *testing.T) {
	long := append([]byte{1, 0, 0x81, 8}, make([]byte, api.MaxPageLen+1)...) // a page of MaxPageLen + 1 bytes
	for _, body := range [][]byte{nil, {0}, {0, 0, 0}, {0, 1}, {0, 1, 0}, {0, 1, 0, 5, 1}, {0, 0x81, 2}, {0, 1, 0x80, 2, 0}, {0, 0x80, 0}, append([]byte{0}, long...)} {
		d := newDisk(t, 80)
		r := region{d, 0, 80}
		checkErrno(t, "commit", r.commit(1, body), api.OK)
		checkNoStore(t, d, 0, 80, api.ErrSyntax)
	}
	d := newDisk(t, 80)
	r := region{d, 0, 80}
	checkErrno(t, "commit", r.commit(1, []byte{0, 1, 5, 2, 8, 9}), api.OK)
	checkPage(t, mustOpen(t, d, 0, 80), 1, 5, []byte{8, 9})
}

// Headers with extreme numbers.
func TestOpenForgedHeaders(t *testing.T) {
	extremes := []uint64{0, 1, 2, 3, 40, math.MaxInt32, math.MaxInt32 + 1, math.MaxInt64, 1 << 63, math.MaxUint64 - 1, math.MaxUint64}
	for _, version := range extremes {
		for _, length := range extremes {
			for parity := range 2 {
				d := newDisk(t, 40)
				r := region{d, 0, 40}
				words := []uint64{version, 40, length, 0, 0, 0, 0, version}
				checkErrno(t, "write", r.write(markSector, mark()), api.OK)
				checkErrno(t, "write", r.write(r.headerSector(parity), encodeWords(words)), api.OK)
				if s, e := Open(d, 0, 40); e != api.ErrSyntax || s != nil {
					checkErrno(t, "Open", e, api.OK)
					checkEmpty(t, s)
				}
			}
		}
	}
}

// No store has so many versions that their numbers could overflow.
func TestOpenForgedVersions(t *testing.T) {
	for _, version := range []int{math.MaxInt32 + 1, math.MaxInt - 1, math.MaxInt} {
		d := newDisk(t, 40)
		r := region{d, 0, 40}
		checkErrno(t, "commit", r.commit(version, []byte{0, 0, 0, 0}), api.OK)
		s := mustOpen(t, d, 0, 40)
		checkEmpty(t, s)
		mustCommit(t, s, 1)
	}
}
