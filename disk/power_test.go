package disk

import (
	"math"
	"testing"

	"credence/api"
)

// Of any writes and flushes the first n succeed. The next one fails before it has any effect.
func TestFailAfter(t *testing.T) {
	for n := range 6 {
		for calls := range 1 << (n + 1) {
			d := newDisk(t, 1)
			d.FailAfter(n)
			last, durable, pending := byte(1), byte(1), 0
			for i := range n {
				if calls>>i&1 == 1 {
					mustFlush(t, d)
					durable, pending = last, 0
				} else {
					last, pending = byte(10+i), pending+1
					mustWrite(t, d, 0, full(last))
				}
				checkState(t, d, true, pending)
			}
			if calls>>n == 1 {
				checkErrno(t, "the failing Flush", d.Flush(), api.ErrOffline)
			} else {
				checkErrno(t, "the failing Write", d.Write(0, full(99)), api.ErrOffline)
			}
			checkState(t, d, false, pending)
			checkReadError(t, d, 0, api.ErrOffline)
			d.PowerOn()
			checkState(t, d, true, pending)
			checkContents(t, d, full(last))
			crash(t, d, 0, -1)
			checkContents(t, d, full(durable))
		}
	}
}

// Calls that fail anyway, and those of other methods, do not count and do not make the power fail.
func TestOtherCallsDoNotCount(t *testing.T) {
	d := newDisk(t, 2)
	others := func() {
		for range 3 {
			checkErrno(t, "Write", d.Write(-1, nil), api.ErrRange)
			checkErrno(t, "Write", d.Write(2, make([]byte, api.SectorSize+1)), api.ErrRange)
			checkErrno(t, "Write", d.Write(0, make([]byte, api.SectorSize+1)), api.ErrTooLarge)
			checkReadError(t, d, 2, api.ErrRange)
			checkSector(t, d, 1, full(2))
			if !d.Online() || d.Size() != 2 {
				t.Fatal("the power failed")
			}
		}
	}
	d.FailAfter(2)
	others()
	mustWrite(t, d, 0, full(5))
	others()
	mustWrite(t, d, 0, full(6))
	others()
	checkErrno(t, "Write", d.Write(0, full(7)), api.ErrOffline)
	checkState(t, d, false, 2)
	d.PowerOn()
	checkContents(t, d, full(6), full(2))
}

// A flush of nothing counts and fails as well.
func TestEmptyFlushCounts(t *testing.T) {
	d := newDisk(t, 1)
	d.FailAfter(1)
	mustFlush(t, d)
	checkErrno(t, "Flush", d.Flush(), api.ErrOffline)
	checkState(t, d, false, 0)
}

// A failure happens once, and is disarmed by a negative number, a crash and PowerOn, with and without power.
func TestDisarm(t *testing.T) {
	for name, disarm := range map[string]func(d *Disk){
		"-1":                                    func(d *Disk) { d.FailAfter(-1) },
		"-2":                                    func(d *Disk) { d.FailAfter(-2) },
		"the least int":                         func(d *Disk) { d.FailAfter(math.MinInt) },
		"PowerOn":                               func(d *Disk) { d.PowerOn() },
		"a crash":                               func(d *Disk) { d.Crash(0, -1); d.PowerOn() },
		"a failure":                             func(d *Disk) { d.FailAfter(0); d.Flush(); d.PowerOn() },
		"PowerOn after FailAfter without power": func(d *Disk) { d.Crash(0, -1); d.FailAfter(0); d.PowerOn() },
		"a crash after FailAfter without power": func(d *Disk) { d.Crash(0, -1); d.FailAfter(0); d.Crash(0, -1); d.PowerOn() },
	} {
		for n := range 3 {
			d := newDisk(t, 1)
			d.FailAfter(n)
			disarm(d)
			for range 100 {
				if e := d.Write(0, nil); e != api.OK {
					t.Fatalf("FailAfter(%d) is not disarmed by %s: error %d of Write", n, name, e)
				}
				if e := d.Flush(); e != api.OK {
					t.Fatalf("FailAfter(%d) is not disarmed by %s: error %d of Flush", n, name, e)
				}
			}
		}
	}
}

// A new call replaces the previous one, whether it comes before or after some of the calls that succeed.
func TestFailAfterReplaces(t *testing.T) {
	for _, first := range []int{math.MinInt, -1, 0, 1, 5, math.MaxInt} {
		for then := range 5 {
			for between := range min(max(first, 0), 3) + 1 {
				d := newDisk(t, 1)
				d.FailAfter(first)
				for range between {
					mustFlush(t, d)
				}
				d.FailAfter(then)
				for range then {
					mustWrite(t, d, 0, nil)
				}
				checkErrno(t, "Write", d.Write(0, full(9)), api.ErrOffline)
				checkState(t, d, false, then)
			}
		}
	}
}

func TestLateFailure(t *testing.T) {
	d := newDisk(t, 1)
	d.FailAfter(math.MaxInt)
	for range 1000 {
		mustWrite(t, d, 0, nil)
	}
	d.FailAfter(1000)
	for range 1000 {
		mustWrite(t, d, 0, full(4))
	}
	checkErrno(t, "Flush", d.Flush(), api.ErrOffline)
	checkState(t, d, false, 2000)
}

// FailAfter does not give power, and PowerOn does, also if called twice.
func TestPowerOn(t *testing.T) {
	d := newDisk(t, 2)
	mustWrite(t, d, 0, full(7))
	d.FailAfter(0)
	checkErrno(t, "Write", d.Write(1, full(8)), api.ErrOffline)
	d.FailAfter(-1)
	checkState(t, d, false, 1)
	d.FailAfter(3)
	checkState(t, d, false, 1)
	for range 2 {
		d.PowerOn()
		checkState(t, d, true, 1)
		checkContents(t, d, full(7), full(2))
	}
	mustFlush(t, d)
	crash(t, d, 0, -1)
	checkContents(t, d, full(7), full(2))
}
