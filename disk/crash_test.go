package disk

import (
	"bytes"
	"math"
	"testing"

	"credence/api"
)

// All choices of the survivors of a few writes, each with some numbers of torn bytes.
func TestSurvivors(t *testing.T) {
	places := []int{0, 1, 0, 2, 1}
	for keep := range uint64(1) << len(places) {
		for _, torn := range []int{math.MinInt, -1, 0, 1, 2, 33, api.SectorSize - 1, api.SectorSize, api.SectorSize + 1, math.MaxInt} {
			d := newDisk(t, 4)
			want := [][]byte{full(1), full(2), full(3), full(4)}
			var before []byte // what the last surviving write replaces
			at, last := 0, -1
			for i, place := range places {
				mustWrite(t, d, place, full(byte(10+i)))
				if keep>>i&1 == 1 {
					at, last, before = place, i, want[place]
					want[place] = full(byte(10 + i))
				}
			}
			if last >= 0 && torn >= 0 && torn < api.SectorSize {
				want[at] = mixed(byte(10+last), torn, before[0])
			}
			crash(t, d, keep|^uint64(0)<<len(places), torn)
			checkContents(t, d, want...)
			crash(t, d, 0, 0)
			checkContents(t, d, want...)
		}
	}
}

// The zero bytes behind a short string are part of the write, torn or not.
func TestTornPadding(t *testing.T) {
	for torn := range api.SectorSize {
		for _, n := range []int{0, 1, 10, 63, 64} {
			d := newDisk(t, 1)
			mustWrite(t, d, 0, bytes.Repeat([]byte{9}, n))
			crash(t, d, 1, torn)
			want := full(1)
			copy(want[:torn], padded(bytes.Repeat([]byte{9}, n)))
			checkContents(t, d, want)
		}
	}
}

// The bytes behind the torn ones are those of the write before it that survived, not of one that was lost.
func TestTornAfterLostWrite(t *testing.T) {
	d := newDisk(t, 1)
	for x := byte(2); x <= 5; x++ {
		mustWrite(t, d, 0, full(x))
	}
	crash(t, d, 0b1001, 20)
	checkContents(t, d, mixed(5, 20, 2))
}

// A write of which no byte takes effect is the last surviving one all the same: the write before it is whole.
func TestTornToNothing(t *testing.T) {
	d := newDisk(t, 2)
	mustWrite(t, d, 0, full(8))
	mustWrite(t, d, 1, full(9))
	crash(t, d, math.MaxUint64, 0)
	checkContents(t, d, full(8), full(2))
}

// Each write below 63 has its own bit, and bit 63 decides all the others.
func TestBitsOfWrites(t *testing.T) {
	for _, n := range []int{1, 62, 63, 64, 65, 66, 130} {
		for bit := range 64 {
			for _, others := range []bool{false, true} {
				keep := uint64(1) << bit
				if others {
					keep = ^keep
				}
				d, _ := New(n)
				for i := range n {
					mustWrite(t, d, i, full(byte(i+1)))
				}
				checkState(t, d, true, n)
				crash(t, d, keep, -1)
				for i := range n {
					if (min(i, 63) == bit) == others {
						checkSector(t, d, i, full(0))
					} else {
						checkSector(t, d, i, full(byte(i+1)))
					}
				}
			}
		}
	}
}

// Of the writes from number 63 on, the last one is torn if they survive. Otherwise it is the last survivor before them.
func TestTornManyPending(t *testing.T) {
	for _, n := range []int{63, 64, 65, 66, 67, 150} {
		for _, sectors := range []int{1, 2, 3, 70} {
			for _, keep := range []uint64{1 << 63, 1<<63 | 1<<62, 1<<63 - 1, 1<<62 | 1, math.MaxUint64, 0} {
				for _, torn := range []int{-1, 0, 1, 40, 64} {
					m := newPair(t, sectors)
					for i := range n {
						m.write(i*i%sectors, full(byte(i+100)))
					}
					m.crash(keep, torn)
					m.d.PowerOn()
					m.model.online = true
					m.check()
				}
			}
		}
	}
}

// What was pending before a flush or crash no longer counts among the pending writes.
func TestNumbersStartAgain(t *testing.T) {
	for _, restart := range []func(d *Disk){
		func(d *Disk) { d.Flush() },
		func(d *Disk) { d.Crash(math.MaxUint64, -1); d.PowerOn() },
	} {
		for _, n := range []int{1, 63, 64, 65, 100} {
			d := newDisk(t, 3)
			for range n {
				mustWrite(t, d, 0, full(7))
				mustWrite(t, d, 1, full(8))
			}
			restart(d)
			checkState(t, d, true, 0)
			mustWrite(t, d, 0, full(20))
			mustWrite(t, d, 1, full(21))
			crash(t, d, 1, -1)
			checkContents(t, d, full(20), full(8), full(3))
		}
	}
}

// A crash without pending writes changes nothing but the power.
func TestCrashWithoutPending(t *testing.T) {
	for _, torn := range []int{-1, 0, 5} {
		d := newDisk(t, 2)
		for range 3 {
			d.Crash(math.MaxUint64, torn)
			checkState(t, d, false, 0)
		}
		d.PowerOn()
		checkContents(t, d, full(1), full(2))
	}
}

// A crash decides the pending writes also after the power failed.
func TestCrashWithoutPower(t *testing.T) {
	d := newDisk(t, 3)
	mustWrite(t, d, 0, full(7))
	mustWrite(t, d, 1, full(8))
	d.FailAfter(1)
	mustWrite(t, d, 2, full(9))
	checkErrno(t, "Flush", d.Flush(), api.ErrOffline)
	checkState(t, d, false, 3)
	crash(t, d, 0b110, 4)
	checkContents(t, d, full(1), full(8), mixed(9, 4, 3))
}

// The writes that a power failure leaves pending keep their numbers beside later ones.
func TestCrashAfterPowerFailure(t *testing.T) {
	d := newDisk(t, 3)
	mustWrite(t, d, 0, full(7))
	mustWrite(t, d, 1, full(8))
	d.FailAfter(0)
	checkErrno(t, "Write", d.Write(2, full(9)), api.ErrOffline)
	d.PowerOn()
	mustWrite(t, d, 2, full(10))
	checkState(t, d, true, 3)
	crash(t, d, 0b101, -1)
	checkContents(t, d, full(7), full(2), full(10))
}

// Whatever is written to other sectors and survives, what was flushed stays.
func TestFlushedSectorsSurvive(t *testing.T) {
	s := newSource(2)
	for range 300 {
		sectors := 1 + s.IntN(20)
		d, _ := New(sectors)
		want := make([][]byte, sectors)
		for at := range sectors {
			want[at] = randomBytes(s, api.SectorSize)
			mustWrite(t, d, at, want[at])
		}
		mustFlush(t, d)
		for range 1 + s.IntN(4) {
			for range s.IntN(100) {
				if at := s.IntN(sectors); at%3 == 1 {
					mustWrite(t, d, at, randomBytes(s, s.IntN(65)))
				}
			}
			if s.IntN(2) == 0 {
				d.FailAfter(0)
				checkErrno(t, "Write", d.Write(0, nil), api.ErrOffline)
			}
			crash(t, d, s.Uint64()|s.Uint64(), s.IntN(80)-10)
		}
		for at := range sectors {
			if at%3 != 1 {
				checkSector(t, d, at, want[at])
			}
		}
	}
}
