package disk

import (
	"bytes"
	"math"
	"testing"

	"credence/api"
)

func TestNewRange(t *testing.T) {
	for _, n := range []int{math.MinInt, -64, -1, 0, api.MaxSectors + 1, math.MaxInt/api.SectorSize + 1, math.MaxInt} {
		if d, e := New(n); d != nil || e != api.ErrInvalid {
			t.Fatalf("New(%d): got %v and error %d", n, d, e)
		}
	}
	for _, n := range []int{1, 2, 3, 100, api.MaxSectors - 1, api.MaxSectors} {
		d, e := New(n)
		checkErrno(t, "New", e, api.OK)
		checkState(t, d, true, 0)
		if d.Size() != n {
			t.Fatalf("Size of %d sectors: %d", n, d.Size())
		}
		for at := range n {
			checkSector(t, d, at, make([]byte, api.SectorSize))
		}
	}
}

// Size, Online and Pending tell the same with and without power.
func TestStateWithoutPower(t *testing.T) {
	d := newDisk(t, 3)
	mustWrite(t, d, 0, nil)
	mustWrite(t, d, 1, nil)
	checkState(t, d, true, 2)
	d.FailAfter(0)
	checkErrno(t, "Flush", d.Flush(), api.ErrOffline)
	checkState(t, d, false, 2)
	if d.Size() != 3 {
		t.Fatalf("Size without power: %d", d.Size())
	}
	d.PowerOn()
	checkState(t, d, true, 2)
}

// Strings of all lengths replace the whole sector and no other one.
func TestWriteReplacesSector(t *testing.T) {
	s := newSource(1)
	for n := range api.SectorSize + 1 {
		for at := range 3 {
			d := newDisk(t, 3)
			want := [][]byte{full(1), full(2), full(3)}
			b := randomBytes(s, n)
			mustWrite(t, d, at, b)
			want[at] = padded(b)
			checkContents(t, d, want...)
			mustFlush(t, d)
			checkContents(t, d, want...)
		}
	}
}

func TestEverySector(t *testing.T) {
	d, e := New(api.MaxSectors)
	checkErrno(t, "New", e, api.OK)
	number := func(at int) []byte { return padded([]byte{byte(at), byte(at >> 8), 1}) }
	for at := range api.MaxSectors {
		mustWrite(t, d, at, number(at))
	}
	checkState(t, d, true, api.MaxSectors)
	mustFlush(t, d)
	checkState(t, d, true, 0)
	crash(t, d, 0, -1)
	for at := range api.MaxSectors {
		checkSector(t, d, at, number(at))
	}
}

// Each write counts, also one that changes nothing, until a flush.
func TestPendingCounts(t *testing.T) {
	d := newDisk(t, 2)
	for i := range 200 {
		mustWrite(t, d, 1, full(2))
		checkState(t, d, true, i+1)
	}
	mustFlush(t, d)
	checkState(t, d, true, 0)
	mustFlush(t, d)
	checkState(t, d, true, 0)
	mustWrite(t, d, 0, nil)
	checkState(t, d, true, 1)
	checkContents(t, d, full(0), full(2))
}

// The errors come in the order of P6.2 and change nothing.
func TestErrorOrder(t *testing.T) {
	d := newDisk(t, 3)
	mustWrite(t, d, 1, full(9))
	long := make([]byte, api.SectorSize+1)
	for _, at := range []int{math.MinInt, -1, 3, 4, math.MaxInt/api.SectorSize + 1, math.MaxInt} {
		for _, b := range [][]byte{nil, full(7), long} {
			checkErrno(t, "Write", d.Write(at, b), api.ErrRange)
		}
		checkReadError(t, d, at, api.ErrRange)
	}
	for at := range 3 {
		checkErrno(t, "Write", d.Write(at, long), api.ErrTooLarge)
		checkErrno(t, "Write", d.Write(at, make([]byte, 5000)), api.ErrTooLarge)
	}
	checkState(t, d, true, 1)
	checkContents(t, d, full(1), full(9), full(3))

	d.FailAfter(0)
	checkErrno(t, "Flush", d.Flush(), api.ErrOffline)
	for _, at := range []int{math.MinInt, -1, 0, 2, 3, math.MaxInt} {
		for _, b := range [][]byte{nil, full(7), long} {
			checkErrno(t, "Write", d.Write(at, b), api.ErrOffline)
		}
		checkReadError(t, d, at, api.ErrOffline)
	}
	checkErrno(t, "Flush", d.Flush(), api.ErrOffline)
	checkState(t, d, false, 1)
	d.PowerOn()
	checkContents(t, d, full(1), full(9), full(3))
	crash(t, d, 0, -1)
	checkContents(t, d, full(1), full(2), full(3))
}

// checkReadError checks that Read returns an error and nothing else.
func checkReadError(t *testing.T, d *Disk, at int, want api.Errno) {
	t.Helper()
	b, e := d.Read(at)
	checkErrno(t, "Read", e, want)
	if len(b) != 0 {
		t.Fatalf("Read with error %d: got %d bytes", e, len(b))
	}
}

// Write neither changes nor keeps its argument and what lies behind it.
func TestArguments(t *testing.T) {
	for _, n := range []int{0, 1, 5, api.SectorSize} {
		d := newDisk(t, 2)
		memory := bytes.Repeat([]byte{8}, 3*api.SectorSize)
		for range 70 {
			mustWrite(t, d, 0, memory[:n])
			mustWrite(t, d, 1, memory[:n])
		}
		if !bytes.Equal(memory, bytes.Repeat([]byte{8}, 3*api.SectorSize)) {
			t.Fatalf("a write of %d bytes changes its argument", n)
		}
		want := padded(memory[:n])
		clear(memory)
		checkContents(t, d, want, want)
		crash(t, d, math.MaxUint64, -1)
		checkContents(t, d, want, want)
		if !bytes.Equal(memory, make([]byte, len(memory))) {
			t.Fatalf("a crash changes the argument of a write of %d bytes", n)
		}
	}
}

// A change of what Read returned, with its spare capacity, changes no sector, also not after a crash or flush.
func TestResults(t *testing.T) {
	spoil := func(d *Disk) [][]byte {
		var out [][]byte
		for at := range d.Size() {
			b, e := d.Read(at)
			checkErrno(t, "Read", e, api.OK)
			if len(b) != api.SectorSize {
				t.Fatalf("Read returns %d bytes", len(b))
			}
			out = append(out, b)
			for i := range b[:cap(b)] {
				b[:cap(b)][i] = 99
			}
		}
		return out
	}
	d := newDisk(t, 3)
	mustWrite(t, d, 1, full(5))
	results := spoil(d)
	checkContents(t, d, full(1), full(5), full(3))
	mustFlush(t, d)
	results = append(results, spoil(d)...)
	checkContents(t, d, full(1), full(5), full(3))
	mustWrite(t, d, 0, full(6))
	crash(t, d, math.MaxUint64, 10)
	results = append(results, spoil(d)...)
	checkContents(t, d, mixed(6, 10, 1), full(5), full(3))
	for _, b := range results {
		if !bytes.Equal(b, full(99)) {
			t.Fatalf("a result is now % x", b)
		}
	}
}

func TestDisksAreIndependent(t *testing.T) {
	c, d := newDisk(t, 2), newDisk(t, 2)
	mustWrite(t, c, 0, full(7))
	checkState(t, d, true, 0)
	c.FailAfter(0)
	mustWrite(t, d, 1, full(8))
	c.Crash(0, -1)
	checkState(t, d, true, 1)
	checkContents(t, d, full(1), full(8))
	c.PowerOn()
	checkContents(t, c, full(1), full(2))
}
