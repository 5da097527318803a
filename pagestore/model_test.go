package pagestore

import (
	"maps"
	"math/rand/v2"
	"slices"
	"strconv"
	"testing"

	"credence/api"
	"credence/disk"
)

// states are all versions of a store, from version 0 on, as the promises describe them.
type states []map[int]string

func (l states) image() string {
	out := ""
	for version := max(0, len(l)-api.MaxVersions); version < len(l); version++ {
		out += "version " + strconv.Itoa(version) + ":" + stateText(l[version]) + "\n"
	}
	return out
}

func stateText(state map[int]string) string {
	out := ""
	for _, page := range slices.Sorted(maps.Keys(state)) {
		out += " " + strconv.Itoa(page) + "=" + strconv.Quote(state[page])
	}
	return out
}

// pair is a store beside its model.
type pair struct {
	t         *testing.T
	d         *disk.Disk
	from, to  int
	s         *Store // nil if it must be opened
	committed states
	maybe     states // what the last Commit with ErrOffline would have produced, or nil
	work      map[int]string
}

// open opens the store again. The power may fail only if that was armed.
func (p *pair) open(armed bool) {
	p.t.Helper()
	s, e := Open(p.d, p.from, p.to)
	if p.s = s; e == api.ErrOffline && s == nil && (armed || !p.d.Online()) {
		return
	}
	checkErrno(p.t, "Open", e, api.OK)
	if p.maybe != nil && image(s) == p.maybe.image() {
		p.committed = p.maybe
	}
	p.maybe = nil
	p.work = maps.Clone(p.committed[len(p.committed)-1])
	p.check()
}

// check compares the store with its model.
func (p *pair) check() {
	p.t.Helper()
	n := len(p.committed)
	if got, want := image(p.s), p.committed.image(); got != want || p.s.Version() != n-1 {
		p.t.Fatalf("version %d: got %s, want %s", p.s.Version(), got, want)
	}
	if got, want := text(p.s, n), stateText(p.work); got != want {
		p.t.Fatalf("the working copy: got %s, want %s", got, want)
	}
}

func (p *pair) put(page int, b []byte) {
	p.t.Helper()
	mustPut(p.t, p.s, page, b)
	p.work[page] = string(b)
}

func (p *pair) delete(page int) {
	p.t.Helper()
	want := api.ErrNotFound
	if _, ok := p.work[page]; ok {
		want = api.OK
	}
	checkErrno(p.t, "Delete", p.s.Delete(page), want)
	delete(p.work, page)
}

func (p *pair) rollback() {
	p.s.Rollback()
	p.work = maps.Clone(p.committed[len(p.committed)-1])
}

func (p *pair) commit() {
	p.t.Helper()
	room := needed(p.s) <= (p.to-p.from)/2
	next := append(slices.Clone(p.committed), maps.Clone(p.work))
	switch n, e := p.s.Commit(); {
	case e == api.OK && n == len(p.committed):
		p.committed, p.maybe = next, nil
	case e == api.ErrSpace && n == 0 && !room:
	case e == api.ErrOffline && n == 0 && !p.d.Online():
		p.maybe = next
	default:
		p.t.Fatalf("Commit: got version %d and error %d, room %v", n, e, room)
	}
}

// step makes a random call of the store.
func (p *pair) step(s *rand.Rand) {
	p.t.Helper()
	switch s.IntN(6) {
	case 0, 1:
		p.put(s.IntN(8), randomBytes(s, s.IntN(200)))
	case 2:
		p.delete(s.IntN(8))
	case 3:
		if s.IntN(3) == 0 {
			p.rollback()
		}
	default:
		p.commit()
	}
	if p.d.Online() {
		p.check()
	}
}

// stepDisk makes a random call of the disk. It reports whether a power failure may be armed.
func stepDisk(s *rand.Rand, d *disk.Disk, armed bool) bool {
	switch s.IntN(8) {
	case 0, 1:
		d.FailAfter(s.IntN(40))
		return true
	case 2:
		d.Crash(s.Uint64(), s.IntN(80)-16)
	case 3:
		d.FailAfter(-1)
		return false
	case 4:
		d.Flush()
	default:
		d.Write([]int{0, 81}[s.IntN(2)], randomBytes(s, 64))
	}
	return armed
}

// Random calls of two stores on one disk, beside writes of others, with power failures and crashes at any time.
func TestRandomCalls(t *testing.T) {
	s := newSource(10)
	for range 300 {
		d := newDisk(t, 82)
		pairs := []*pair{
			{t: t, d: d, from: 1, to: 33, committed: states{{}}},
			{t: t, d: d, from: 33, to: 81, committed: states{{}}},
		}
		armed := false
		for range 200 {
			p := pairs[s.IntN(2)]
			switch {
			case p.s == nil || s.IntN(30) == 0:
				p.open(armed)
			case s.IntN(4) == 0:
				armed = stepDisk(s, d, armed)
			default:
				p.step(s)
			}
			if !d.Online() {
				if s.IntN(2) == 0 {
					d.Crash(s.Uint64(), s.IntN(80)-16)
				}
				d.PowerOn()
				armed, pairs[0].s, pairs[1].s = false, nil, nil
			}
		}
	}
}
