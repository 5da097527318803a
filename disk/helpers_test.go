package disk

import (
	"bytes"
	"math/rand/v2"
	"testing"

	"credence/api"
)

// newSource returns a source that gives the same numbers in every run.
func newSource(seed uint64) *rand.Rand {
	return rand.New(rand.NewPCG(seed, 6))
}

// randomBytes returns n bytes.
func randomBytes(s *rand.Rand, n int) []byte {
	out := make([]byte, n)
	for i := range out {
		out[i] = byte(s.Uint32())
	}
	return out
}

// full returns the contents of a sector in which each byte is x.
func full(x byte) []byte {
	return bytes.Repeat([]byte{x}, api.SectorSize)
}

// padded returns the contents of a sector to which b is written.
func padded(b []byte) []byte {
	return append(bytes.Clone(b), make([]byte, api.SectorSize-len(b))...)
}

// mixed returns the contents of a sector of bytes x of which the first n are then replaced by bytes y.
func mixed(y byte, n int, x byte) []byte {
	return append(full(y)[:n:n], full(x)[n:]...)
}

// newDisk returns a disk whose sectors hold bytes 1, 2, .. durably.
func newDisk(t *testing.T, sectors int) *Disk {
	t.Helper()
	d, e := New(sectors)
	checkErrno(t, "New", e, api.OK)
	for at := range sectors {
		mustWrite(t, d, at, full(byte(at+1)))
	}
	mustFlush(t, d)
	return d
}

// mustWrite writes a sector. The write must succeed.
func mustWrite(t *testing.T, d *Disk, at int, b []byte) {
	t.Helper()
	checkErrno(t, "Write", d.Write(at, b), api.OK)
}

// mustFlush flushes a disk. This must succeed.
func mustFlush(t *testing.T, d *Disk) {
	t.Helper()
	checkErrno(t, "Flush", d.Flush(), api.OK)
}

// crash lets a disk crash and switches it on again.
func crash(t *testing.T, d *Disk, keep uint64, torn int) {
	t.Helper()
	d.Crash(keep, torn)
	checkState(t, d, false, 0)
	d.PowerOn()
	checkState(t, d, true, 0)
}

// checkErrno fails the test if got is not want.
func checkErrno(t *testing.T, what string, got, want api.Errno) {
	t.Helper()
	if got != want {
		t.Fatalf("%s: got error %d, want %d", what, got, want)
	}
}

// checkState checks what Online and Pending return.
func checkState(t *testing.T, d *Disk, online bool, pending int) {
	t.Helper()
	if d.Online() != online || d.Pending() != pending {
		t.Fatalf("online %v with %d pending writes, want %v with %d", d.Online(), d.Pending(), online, pending)
	}
}

// checkSector checks the contents of a sector.
func checkSector(t *testing.T, d *Disk, at int, want []byte) {
	t.Helper()
	got, e := d.Read(at)
	checkErrno(t, "Read", e, api.OK)
	if !bytes.Equal(got, want) {
		t.Fatalf("sector %d: got % x, want % x", at, got, want)
	}
}

// checkContents checks the contents of all sectors.
func checkContents(t *testing.T, d *Disk, want ...[]byte) {
	t.Helper()
	if d.Size() != len(want) {
		t.Fatalf("%d sectors, want %d", d.Size(), len(want))
	}
	for at, b := range want {
		checkSector(t, d, at, b)
	}
}
