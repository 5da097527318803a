package disk

import (
	"bytes"
	"math"
	"math/rand/v2"
	"slices"
	"testing"

	"credence/api"
)

// model is a disk as the promises describe it: it keeps each pending write and computes all contents anew.
type model struct {
	durable [][]byte
	pending []write
	online  bool
	armed   bool
	calls   int
}

func (m *model) contents() [][]byte {
	out := slices.Clone(m.durable)
	for _, w := range m.pending {
		out[w.at] = w.contents
	}
	return out
}

// fails reports whether the power fails at a call that would otherwise succeed.
func (m *model) fails() bool {
	if !m.armed {
		return false
	}
	if m.calls > 0 {
		m.calls--
		return false
	}
	m.armed, m.online = false, false
	return true
}

func (m *model) write(at int, b []byte) api.Errno {
	switch {
	case !m.online:
		return api.ErrOffline
	case at < 0 || at >= len(m.durable):
		return api.ErrRange
	case len(b) > api.SectorSize:
		return api.ErrTooLarge
	case m.fails():
		return api.ErrOffline
	}
	m.pending = append(m.pending, write{at, padded(b)})
	return api.OK
}

func (m *model) flush() api.Errno {
	if !m.online || m.fails() {
		return api.ErrOffline
	}
	m.durable, m.pending = m.contents(), nil
	return api.OK
}

func (m *model) crash(keep uint64, torn int) {
	var kept []write
	for i, w := range m.pending {
		if keep>>min(i, 63)&1 == 1 {
			kept = append(kept, w)
		}
	}
	m.pending = kept
	if n := len(kept); n > 0 && torn >= 0 && torn < api.SectorSize {
		last := kept[n-1]
		m.pending = kept[:n-1]
		before := m.contents()[last.at]
		m.pending = append(m.pending, write{last.at, slices.Concat(last.contents[:torn], before[torn:])})
	}
	m.durable, m.pending = m.contents(), nil
	m.armed, m.online = false, false
}

// pair is a disk beside its model.
type pair struct {
	t     *testing.T
	d     *Disk
	model model
}

func newPair(t *testing.T, sectors int) *pair {
	d, e := New(sectors)
	checkErrno(t, "New", e, api.OK)
	p := &pair{t: t, d: d, model: model{online: true}}
	for range sectors {
		p.model.durable = append(p.model.durable, make([]byte, api.SectorSize))
	}
	return p
}

func (p *pair) write(at int, b []byte) {
	p.t.Helper()
	checkErrno(p.t, "Write", p.d.Write(at, b), p.model.write(at, b))
}

func (p *pair) flush() {
	p.t.Helper()
	checkErrno(p.t, "Flush", p.d.Flush(), p.model.flush())
}

func (p *pair) crash(keep uint64, torn int) {
	p.d.Crash(keep, torn)
	p.model.crash(keep, torn)
}

func (p *pair) powerOn() {
	p.d.PowerOn()
	p.model.online, p.model.armed = true, false
}

func (p *pair) failAfter(n int) {
	p.d.FailAfter(n)
	p.model.armed, p.model.calls = n >= 0, n
}

// check compares everything that can be observed.
func (p *pair) check() {
	p.t.Helper()
	checkState(p.t, p.d, p.model.online, len(p.model.pending))
	contents := p.model.contents()
	if p.model.online {
		checkContents(p.t, p.d, contents...)
		return
	}
	for at := range contents {
		checkReadError(p.t, p.d, at, api.ErrOffline)
	}
}

// step makes a random call. Of them, one in calm is not a write.
func (p *pair) step(s *rand.Rand, calm int) {
	sectors := len(p.model.durable)
	if s.IntN(calm) > 0 {
		p.write(s.IntN(sectors+s.IntN(2)), randomBytes(s, s.IntN(api.SectorSize+2)))
		return
	}
	switch s.IntN(6) {
	case 0:
		p.flush()
	case 1:
		p.crash(s.Uint64(), s.IntN(api.SectorSize+4)-2)
	case 2:
		p.crash([]uint64{0, 1, 1 << 62, 1 << 63, 1<<63 - 1, math.MaxUint64}[s.IntN(6)], s.IntN(3)-1)
	case 3:
		p.failAfter(s.IntN(4*calm) - 2)
	default:
		p.powerOn()
	}
}

// Random calls have the same results as in the model, with few and with many pending writes.
func TestRandomCalls(t *testing.T) {
	s := newSource(3)
	for round := range 400 {
		p := newPair(t, 1+s.IntN(5))
		calm := []int{2, 5, 40, 150}[round%4]
		for range 10 * calm {
			p.step(s, calm)
			p.check()
			if !p.model.online && s.IntN(4) > 0 {
				p.powerOn()
			}
		}
		p.powerOn()
		p.check()
		p.crash(0, -1)
		p.powerOn()
		p.check()
	}
}

// The same calls have the same results again.
func TestRepeatedCalls(t *testing.T) {
	run := func() [][]byte {
		s := newSource(4)
		p := newPair(t, 50)
		for range 2000 {
			p.step(s, 100)
			if !p.model.online {
				p.powerOn()
			}
		}
		p.check()
		return p.model.contents()
	}
	if !slices.EqualFunc(run(), run(), bytes.Equal) {
		t.Fatal("two runs of the same calls differ")
	}
}

// Writes that are never flushed take no more memory than the disk. All of them count.
func TestEndlessPending(t *testing.T) {
	d := newDisk(t, 3)
	const n = 1 << 20
	for i := range n {
		mustWrite(t, d, i%2, full(byte(i)))
	}
	checkState(t, d, true, n)
	if kept := len(d.pending.early) + len(d.pending.middle) + 1; kept > shared+d.Size()+1 {
		t.Fatalf("%d pending writes are kept", kept)
	}
	crash(t, d, 1<<63, 2)
	checkContents(t, d, full(254), mixed(255, 2, 253), full(3))
}
