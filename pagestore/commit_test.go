package pagestore

import (
	"bytes"
	"math/rand/v2"
	"slices"
	"testing"

	"credence/api"
	"credence/disk"
)

// The last MaxVersions versions are kept, as they were committed.
func TestVersionNumbers(t *testing.T) {
	d := newDisk(t, 64)
	s := mustOpen(t, d, 20, 64)
	for n := 1; n <= 20; n++ {
		mustPut(t, s, n%6, []byte{byte(n)})
		mustCommit(t, s, n)
		var want []int
		for k := max(0, n+1-api.MaxVersions); k <= n; k++ {
			want = append(want, k)
			if k > 0 {
				checkPage(t, s, k, k%6, []byte{byte(k)})
			}
		}
		if got := s.Versions(); !slices.Equal(got, want) {
			t.Fatalf("versions after commit %d: got %v, want %v", n, got, want)
		}
		if text(s, n) != text(s, n+1) {
			t.Fatalf("Commit %d changes the working copy", n)
		}
		if d.Pending() != 0 {
			t.Fatalf("Commit %d leaves %d pending writes", n, d.Pending())
		}
	}
}

// A version without changes is a version.
func TestCommitWithoutChanges(t *testing.T) {
	d := newDisk(t, 32)
	s := mustOpen(t, d, 0, 32)
	for n := 1; n <= 3; n++ {
		mustCommit(t, s, n)
		checkPages(t, s, n)
		if again := mustOpen(t, d, 0, 32); image(again) != image(s) {
			t.Fatalf("got %s, want %s", image(again), image(s))
		}
	}
	mustPut(t, s, 0, []byte("zero"))
	for n := 4; n <= 12; n++ {
		mustCommit(t, s, n)
		checkPage(t, mustOpen(t, d, 0, 32), n, 0, []byte("zero"))
	}
}

// A change of the working copy, or a Rollback, leaves the versions as they are, whether the next one is committed or not.
func TestVersionsStay(t *testing.T) {
	d := newDisk(t, 100)
	s := mustOpen(t, d, 0, 100)
	mustPut(t, s, 1, []byte("first"))
	mustPut(t, s, 2, []byte("second"))
	mustCommit(t, s, 1)
	mustPut(t, s, 1, []byte("other"))
	checkErrno(t, "Delete", s.Delete(2), api.OK)
	mustPut(t, s, 3, nil)
	mustCommit(t, s, 2)
	s.Rollback()
	mustPut(t, s, 3, []byte("third"))
	for _, x := range []*Store{s, mustOpen(t, d, 0, 100)} {
		checkPages(t, x, 0)
		checkPages(t, x, 1, 1, 2)
		checkPage(t, x, 1, 1, []byte("first"))
		checkPage(t, x, 1, 2, []byte("second"))
		checkPages(t, x, 2, 1, 3)
		checkPage(t, x, 2, 1, []byte("other"))
		checkPage(t, x, 2, 3, nil)
	}
}

// cost is the number of sectors of P7.3 for a page of n bytes.
func cost(n int) int {
	return 1 + (n+63)/64
}

// needed is the number of sectors of P7.3 for a commit of the working copy.
func needed(s *Store) int {
	out := 8
	kept := append(s.Versions(), s.Version()+1)
	for _, version := range kept[max(0, len(kept)-api.MaxVersions):] {
		out += 2
		for _, page := range s.Pages(version) {
			b, _ := s.Get(version, page)
			out += cost(len(b))
		}
	}
	return out
}

// fill adds pages to the working copy until no room is left.
func fill(t *testing.T, s *Store, source *rand.Rand, lengths []int, room int) {
	t.Helper()
	for page := api.MaxPages - 1; page >= 0 && room > 0; page-- {
		if _, e := s.Get(s.Version()+1, page); e == api.OK {
			continue
		}
		n := min(lengths[source.IntN(len(lengths))], 64*(room-1))
		mustPut(t, s, page, randomBytes(source, n))
		room -= cost(n)
	}
}

// There is room for what P7.3 counts as half of the sectors, for small and large pages and sizes.
func TestRoom(t *testing.T) {
	source := newSource(6)
	for _, size := range []int{32, 33, 34, 35, 47, 64, 101, 500, 1001, 4096, api.MaxSectors - 1, api.MaxSectors} {
		for _, lengths := range [][]int{{0}, {1}, {64}, {65}, {1024}, {960}, {0, 64, 1024}, {1, 63, 64, 65, 500, 1023}} {
			for versions := 0; versions < 9; versions += 1 + size/2000 {
				checkRoom(t, source, lengths, size, versions)
			}
		}
	}
}

// checkRoom commits some versions, of which some have many pages, as long as P7.3 promises room for them. Then it commits one that needs all the room.
func checkRoom(t *testing.T, source *rand.Rand, lengths []int, size, versions int) {
	t.Helper()
	d := newDisk(t, size)
	s := mustOpen(t, d, 0, size)
	for n := 1; n <= versions+1; n++ {
		room := size/2 - needed(s)
		for _, page := range s.Pages(n) {
			if room < 0 || source.IntN(3) == 0 {
				b, _ := s.Get(n, page)
				room += cost(len(b))
				checkErrno(t, "Delete", s.Delete(page), api.OK)
			}
		}
		if n > versions || source.IntN(3) == 0 {
			fill(t, s, source, lengths, room)
		}
		if needed(s) > size/2 {
			return
		}
		mustCommit(t, s, n)
	}
	if again := mustOpen(t, d, 0, size); image(again) != image(s) {
		t.Fatalf("Open finds other versions in %d sectors", size)
	}
}

// The counted number includes the pages of all kept versions. As soon as one is dropped, there is room again.
func TestRoomForKeptVersions(t *testing.T) {
	for _, size := range []int{32, 60, 200, 2000} {
		s := mustOpen(t, newDisk(t, size), 0, size)
		n := 0
		for range 5 {
			for page := 0; needed(s)+17 <= size/2; page++ {
				mustPut(t, s, page, make([]byte, api.MaxPageLen))
			}
			n++
			mustCommit(t, s, n)
			for _, page := range s.Pages(n) {
				checkErrno(t, "Delete", s.Delete(page), api.OK)
			}
			for range api.MaxVersions {
				n++
				mustCommit(t, s, n)
			}
		}
	}
}

// checkNoSpace checks that Commit returns ErrSpace and changes nothing.
func checkNoSpace(t *testing.T, d *disk.Disk, s *Store) {
	t.Helper()
	before, work, contents, pending := image(s), text(s, s.Version()+1), sectors(t, d), d.Pending()
	n, e := s.Commit()
	checkErrno(t, "Commit", e, api.ErrSpace)
	if n != 0 || image(s) != before || text(s, s.Version()+1) != work {
		t.Fatalf("ErrSpace with version %d changes the store", n)
	}
	if d.Pending() != pending || !bytes.Equal(sectors(t, d), contents) {
		t.Fatal("ErrSpace changes the disk")
	}
	if again := mustOpen(t, d, 0, d.Size()); image(again) != before {
		t.Fatal("Open finds other versions after ErrSpace")
	}
}

func TestNoSpace(t *testing.T) {
	for _, size := range []int{32, 33, 50, 200} {
		d := newDisk(t, size)
		s := mustOpen(t, d, 0, size)
		for page := range size / 16 {
			mustPut(t, s, page, bytes.Repeat([]byte{1}, api.MaxPageLen))
		}
		checkNoSpace(t, d, s)
		checkNoSpace(t, d, s)
		s.Rollback()
		checkEmpty(t, s)
		mustPut(t, s, 1, []byte("small"))
		mustCommit(t, s, 1)
		for page := range size / 16 {
			mustPut(t, s, page, bytes.Repeat([]byte{2}, api.MaxPageLen))
		}
		checkNoSpace(t, d, s)
		for page := range size / 16 {
			checkErrno(t, "Delete", s.Delete(page), api.OK)
		}
		mustPut(t, s, 2, []byte("after that"))
		mustCommit(t, s, 2)
		if again := mustOpen(t, d, 0, size); image(again) != image(s) {
			t.Fatal("Open finds other versions after a small commit")
		}
	}
}

// The largest working copy does not fit into the largest disk.
func TestNoSpaceForEverything(t *testing.T) {
	d := newDisk(t, api.MaxSectors)
	s := mustOpen(t, d, 0, api.MaxSectors)
	mustCommit(t, s, 1)
	for page := range api.MaxPages {
		mustPut(t, s, page, make([]byte, api.MaxPageLen))
	}
	checkNoSpace(t, d, s)
}

// A want of space is reported also without power, and does not make the power fail.
func TestNoSpaceBeforeOffline(t *testing.T) {
	d := newDisk(t, 32)
	s := mustOpen(t, d, 0, 32)
	mustPut(t, s, 0, make([]byte, api.MaxPageLen))
	mustPut(t, s, 1, make([]byte, api.MaxPageLen))
	d.FailAfter(0)
	n, e := s.Commit()
	checkErrno(t, "Commit", e, api.ErrSpace)
	if n != 0 || !d.Online() {
		t.Fatalf("Commit with ErrSpace: version %d, online %v", n, d.Online())
	}
	d.Crash(0, -1)
	_, e = s.Commit()
	checkErrno(t, "Commit without power", e, api.ErrSpace)
}

// Without power there is no version.
func TestCommitWithoutPower(t *testing.T) {
	d := newDisk(t, 64)
	s := mustOpen(t, d, 0, 64)
	mustPut(t, s, 1, []byte("one"))
	mustCommit(t, s, 1)
	before := image(s)
	mustPut(t, s, 1, []byte("two"))
	d.Crash(0, -1)
	n, e := s.Commit()
	checkErrno(t, "Commit", e, api.ErrOffline)
	if n != 0 {
		t.Fatalf("Commit without power returns version %d", n)
	}
	d.PowerOn()
	if again := mustOpen(t, d, 0, 64); image(again) != before {
		t.Fatalf("got %s, want %s", image(again), before)
	}
}

// Stores in different parts of a disk do not disturb each other.
func TestNeighbours(t *testing.T) {
	d := newDisk(t, 160)
	source := newSource(7)
	var stores []*Store
	for i := range 4 {
		stores = append(stores, mustOpen(t, d, 40*i, 40*i+40))
	}
	for range 200 {
		i := source.IntN(4)
		s := stores[i]
		mustPut(t, s, source.IntN(2), randomBytes(source, source.IntN(100)))
		mustCommit(t, s, s.Version()+1)
		crash(d, source.Uint64(), source.IntN(64))
		for k, x := range stores {
			again := mustOpen(t, d, 40*k, 40*k+40)
			if image(again) != image(x) {
				t.Fatalf("store %d: got %s, want %s", k, image(again), image(x))
			}
			stores[k] = again
		}
	}
}
