package pagestore

import (
	"bytes"
	"math"
	"testing"

	"credence/api"
	"credence/disk"
)

// attempt is a commit during which the power fails, and what happens to the pending writes.
type attempt struct {
	before int // the number of successful commits before it
	after  int // the number of disk calls before the power fails
	crash  bool
	keep   uint64
	torn   int
}

// prepare returns a disk with a store of some versions.
func prepare(t *testing.T, versions int) (*disk.Disk, *Store) {
	t.Helper()
	d := newDisk(t, 40)
	s := mustOpen(t, d, 2, 38)
	for n := 1; n <= versions; n++ {
		mustPut(t, s, n%3, bytes.Repeat([]byte{byte(n)}, 10))
		mustCommit(t, s, n)
	}
	return d, s
}

// run makes the attempt and checks what Open finds. It reports whether the commit was successful.
func (a attempt) run(t *testing.T) bool {
	t.Helper()
	d, s := prepare(t, a.before)
	old := image(s)
	mustPut(t, s, 1, []byte("new contents of page one"))
	mustPut(t, s, 5, bytes.Repeat([]byte{0xa5}, 70))
	d.FailAfter(a.after)
	n, e := s.Commit()
	done := e == api.OK
	if !done && (e != api.ErrOffline || n != 0) {
		t.Fatalf("%+v: Commit returns %d and error %d", a, n, e)
	}
	if a.crash {
		d.Crash(a.keep, a.torn)
	}
	d.PowerOn()
	s = mustOpen(t, d, 2, 38)
	found := image(s)
	if s.Version() == a.before+1 {
		checkPage(t, s, s.Version(), 1, []byte("new contents of page one"))
		checkPage(t, s, s.Version(), 5, bytes.Repeat([]byte{0xa5}, 70))
	} else if done || found != old {
		t.Fatalf("%+v: found %s", a, found)
	}
	if text(s, s.Version()) != text(s, s.Version()+1) {
		t.Fatalf("%+v: the working copy is %s", a, text(s, s.Version()+1))
	}
	checkFound(t, d, found)
	return done
}

// checkFound checks that what Open found stays, through a crash and as the base of new versions.
func checkFound(t *testing.T, d *disk.Disk, found string) {
	t.Helper()
	crash(d, 0, -1)
	s := mustOpen(t, d, 2, 38)
	if image(s) != found {
		t.Fatalf("a version was lost after Open: got %s, want %s", image(s), found)
	}
	for range 2 {
		mustPut(t, s, 4, []byte("next"))
		mustCommit(t, s, s.Version()+1)
		crash(d, 0, -1)
		if again := mustOpen(t, d, 2, 38); image(again) != image(s) {
			t.Fatalf("a version was lost after Commit: got %s, want %s", image(again), image(s))
		}
	}
}

// A power failure at each call of a commit, with all survivors among the few writes that are pending, whole or torn.
func TestEveryCrash(t *testing.T) {
	for _, before := range []int{0, 1, 2, 5} {
		for after := 0; ; after++ {
			done := attempt{before, after, false, 0, -1}.run(t)
			for keep := range uint64(16) {
				for torn := -1; torn < api.SectorSize; torn += 4 {
					attempt{before, after, true, keep, torn}.run(t)
				}
				attempt{before, after, true, keep, 1}.run(t)
				attempt{before, after, true, keep, 62}.run(t)
			}
			if done {
				break
			}
			if after > 50 {
				t.Fatal("Commit never succeeds")
			}
		}
	}
}

// All places where the last surviving write may be torn.
func TestEveryTornByte(t *testing.T) {
	for before := range 3 {
		for after := 0; ; after++ {
			done := false
			for torn := range api.SectorSize {
				done = attempt{before, after, true, math.MaxUint64, torn}.run(t)
			}
			if done {
				break
			}
		}
	}
}

// A large commit has more pending writes than the disk tells apart.
func TestCrashOfLargeCommit(t *testing.T) {
	source := newSource(8)
	for round := range 300 {
		d := newDisk(t, 400)
		s := mustOpen(t, d, 0, 400)
		for page := range round % 3 {
			mustPut(t, s, page, randomBytes(source, 900))
			mustCommit(t, s, page+1)
		}
		old := image(s)
		for page := range 5 {
			mustPut(t, s, 10+page, randomBytes(source, 1000))
		}
		want := text(s, s.Version()+1)
		d.FailAfter(source.IntN(150))
		_, e := s.Commit()
		d.Crash(source.Uint64(), source.IntN(80)-10)
		d.PowerOn()
		again := mustOpen(t, d, 0, 400)
		isNew := again.Version() == round%3+1 && text(again, again.Version()) == want
		if !isNew && (e == api.OK || image(again) != old) {
			t.Fatalf("found %s", image(again))
		}
	}
}

// The version that Open finds is durable, also if it was pending before. If the power fails at that, Open says so.
func TestOpenOfPendingVersion(t *testing.T) {
	for before := range 4 {
		d, s := prepare(t, before)
		old := image(s)
		after := pendingCommit(t, d, s)
		d.PowerOn()
		d.FailAfter(0)
		checkNoStore(t, d, 2, 38, api.ErrOffline)
		d.PowerOn()
		found := mustOpen(t, d, 2, 38)
		if found.Version() != before+1 || d.Pending() != 0 {
			t.Fatalf("Open finds version %d and leaves %d pending writes", found.Version(), d.Pending())
		}
		checkFound(t, d, image(found))

		d, s = prepare(t, before)
		checkErrno(t, "Write", d.Write(0, []byte("of others")), api.OK)
		d.FailAfter(after)
		_, e := s.Commit()
		checkErrno(t, "Commit", e, api.ErrOffline)
		d.PowerOn()
		d.FailAfter(0)
		checkNoStore(t, d, 2, 38, api.ErrOffline)
		crash(d, 0, -1)
		if again := mustOpen(t, d, 2, 38); image(again) != old {
			t.Fatalf("got %s, want %s", image(again), old)
		}
	}
}

// pendingCommit lets the power fail at the last disk call of a commit, and returns the number of calls before it.
func pendingCommit(t *testing.T, d *disk.Disk, s *Store) int {
	t.Helper()
	calls := 0
	for before := s.Version(); ; calls++ {
		probe, p := prepare(t, before)
		probe.FailAfter(calls)
		if _, e := p.Commit(); e == api.OK {
			break
		}
	}
	d.FailAfter(calls - 1)
	_, e := s.Commit()
	checkErrno(t, "Commit", e, api.ErrOffline)
	return calls - 1
}

// Open makes no call that a power failure could hit unless something is pending.
func TestOpenWithoutPendingWrites(t *testing.T) {
	for before := range 4 {
		d, s := prepare(t, before)
		for range 3 {
			d.FailAfter(0)
			if again := mustOpen(t, d, 2, 38); image(again) != image(s) || !d.Online() {
				t.Fatalf("got %s, want %s", image(again), image(s))
			}
		}
	}
}

// Many commits fail one after another, at all calls, before one succeeds.
func TestRepeatedFailures(t *testing.T) {
	source := newSource(9)
	for before := range 4 {
		for round := range 60 {
			d, s := prepare(t, before)
			last := image(s)
			for range 12 {
				mustPut(t, s, source.IntN(3), randomBytes(source, source.IntN(80)))
				n, want := s.Version(), text(s, s.Version()+1)
				d.FailAfter(source.IntN(14))
				_, e := s.Commit()
				if source.IntN(3) > 0 {
					d.Crash(source.Uint64(), source.IntN(80)-16)
				}
				d.PowerOn()
				s = mustOpen(t, d, 2, 38)
				isNew := s.Version() == n+1 && text(s, n+1) == want
				if !isNew && (e == api.OK || image(s) != last) {
					t.Fatalf("round %d: found %s, want %s", round, image(s), last)
				}
				last = image(s)
			}
		}
	}
}

// Stores that are not opened again after a power failure, or after a commit of another Store, may lose versions, but Open finds a store all the same, and in it what some commit wrote.
func TestStaleStores(t *testing.T) {
	source := newSource(11)
	for range 100 {
		d := newDisk(t, 40)
		stores := []*Store{mustOpen(t, d, 2, 38), mustOpen(t, d, 2, 38), mustOpen(t, d, 2, 38)}
		known := map[string]bool{"": true}
		for range 100 {
			i := source.IntN(len(stores))
			if source.IntN(10) == 0 {
				stores[i] = mustOpen(t, d, 2, 38)
			}
			s := stores[i]
			mustPut(t, s, source.IntN(2), randomBytes(source, source.IntN(100)))
			known[text(s, s.Version()+1)] = true
			d.FailAfter(source.IntN(30))
			s.Commit()
			if source.IntN(2) == 0 {
				d.Crash(source.Uint64(), source.IntN(80)-16)
			}
			d.PowerOn()
			again := mustOpen(t, d, 2, 38)
			for _, version := range again.Versions() {
				if !known[text(again, version)] {
					t.Fatalf("version %d is%s", version, text(again, version))
				}
			}
		}
	}
}
