package pagestore

import (
	"bytes"
	"math"
	"slices"
	"testing"

	"credence/api"
)

// invalidPages are numbers that no page has.
func invalidPages() []int {
	return []int{math.MinInt, -256, -1, api.MaxPages, api.MaxPages + 1, 2 * api.MaxPages, math.MaxInt}
}

// The errors come in the order of P7.2 and change nothing.
func TestPutErrors(t *testing.T) {
	s := mustOpen(t, newDisk(t, 32), 0, 32)
	mustPut(t, s, 3, []byte("kept"))
	long := make([]byte, api.MaxPageLen+1)
	for _, page := range invalidPages() {
		for _, b := range [][]byte{nil, []byte("x"), long} {
			checkErrno(t, "Put", s.Put(page, b), api.ErrRange)
		}
	}
	for page := range api.MaxPages {
		checkErrno(t, "Put", s.Put(page, long), api.ErrTooLarge)
		checkErrno(t, "Put", s.Put(page, make([]byte, 100000)), api.ErrTooLarge)
	}
	checkPages(t, s, 1, 3)
	checkPage(t, s, 1, 3, []byte("kept"))
}

func TestDeleteErrors(t *testing.T) {
	s := mustOpen(t, newDisk(t, 32), 0, 32)
	mustPut(t, s, 3, nil)
	mustPut(t, s, 4, []byte("kept"))
	for _, page := range invalidPages() {
		checkErrno(t, "Delete", s.Delete(page), api.ErrRange)
	}
	for page := range api.MaxPages {
		if page != 3 && page != 4 {
			checkErrno(t, "Delete", s.Delete(page), api.ErrNotFound)
		}
	}
	checkErrno(t, "Delete", s.Delete(3), api.OK)
	checkErrno(t, "Delete", s.Delete(3), api.ErrNotFound)
	checkPages(t, s, 1, 4)
	mustCommit(t, s, 1)
	checkErrno(t, "Delete", s.Delete(3), api.ErrNotFound)
	checkErrno(t, "Delete", s.Delete(4), api.OK)
	checkErrno(t, "Delete", s.Delete(4), api.ErrNotFound)
	checkPages(t, s, 1, 4)
	checkPages(t, s, 2)
}

// Pages of all numbers and of all lengths, also none.
func TestPutEveryPage(t *testing.T) {
	d := newDisk(t, api.MaxSectors)
	s := mustOpen(t, d, 0, api.MaxSectors)
	source := newSource(4)
	var want [][]byte
	var numbers []int
	for page := range api.MaxPages {
		want = append(want, randomBytes(source, 4*page))
		numbers = append(numbers, page)
		mustPut(t, s, api.MaxPages-1-page, []byte("replaced"))
	}
	want[7], want[8] = nil, randomBytes(source, api.MaxPageLen)
	for page, b := range want {
		mustPut(t, s, page, b)
	}
	checkPages(t, s, 1, numbers...)
	mustCommit(t, s, 1)
	crash(d, 0, -1)
	s = mustOpen(t, d, 0, api.MaxSectors)
	checkPages(t, s, 1, numbers...)
	for page, b := range want {
		checkPage(t, s, 1, page, b)
		checkPage(t, s, 2, page, b)
	}
}

func TestEveryPageLength(t *testing.T) {
	d := newDisk(t, 200)
	s := mustOpen(t, d, 0, 200)
	source := newSource(5)
	for n := range api.MaxPageLen + 1 {
		b := randomBytes(source, n)
		mustPut(t, s, 9, b)
		checkPage(t, s, n+1, 9, b)
		mustCommit(t, s, n+1)
		checkPage(t, mustOpen(t, d, 0, 200), n+1, 9, b)
	}
}

// The errors of Get come in the order of P7.4.
func TestGetErrors(t *testing.T) {
	s := mustOpen(t, newDisk(t, 100), 0, 100)
	checkNoPage(t, s, 0, 0, api.ErrNotFound)
	for n := 1; n <= 6; n++ {
		mustPut(t, s, n, []byte{byte(n)})
		mustCommit(t, s, n)
	}
	mustPut(t, s, 50, []byte("new"))
	for _, version := range []int{math.MinInt, -1, 0, 1, 2, 8, 9, math.MaxInt} {
		for _, page := range append(invalidPages(), 0, 1, 50) {
			checkNoPage(t, s, version, page, api.ErrNotFound)
		}
		checkPages(t, s, version)
	}
	for version := 3; version <= 7; version++ {
		for _, page := range invalidPages() {
			checkNoPage(t, s, version, page, api.ErrRange)
		}
		for _, page := range []int{0, 7, 49, api.MaxPages - 1} {
			checkNoPage(t, s, version, page, api.ErrNotFound)
		}
	}
	checkNoPage(t, s, 6, 50, api.ErrNotFound)
	checkPage(t, s, 7, 50, []byte("new"))
	checkNoPage(t, s, 3, 4, api.ErrNotFound)
	checkPage(t, s, 4, 4, []byte{4})
}

func TestRollback(t *testing.T) {
	d := newDisk(t, 100)
	s := mustOpen(t, d, 0, 100)
	mustPut(t, s, 1, []byte("one"))
	s.Rollback()
	checkEmpty(t, s)
	s.Rollback()
	checkEmpty(t, s)
	for n := 1; n <= 6; n++ {
		mustPut(t, s, 1, []byte{byte(n)})
		mustPut(t, s, 10+n, nil)
		mustCommit(t, s, n)
		before := image(s)
		mustPut(t, s, 1, []byte("changed"))
		mustPut(t, s, 2, []byte("added"))
		checkErrno(t, "Delete", s.Delete(10+n), api.OK)
		checkPage(t, s, n+1, 1, []byte("changed"))
		checkPage(t, s, n, 1, []byte{byte(n)})
		s.Rollback()
		if text(s, n+1) != text(s, n) || image(s) != before {
			t.Fatalf("after Rollback:\n%s%s", image(s), text(s, n+1))
		}
	}
}

// Neither the argument of Put nor what lies behind it is changed or kept.
func TestArguments(t *testing.T) {
	for _, n := range []int{0, 1, 64, 100, api.MaxPageLen} {
		d := newDisk(t, 200)
		s := mustOpen(t, d, 0, 200)
		memory := bytes.Repeat([]byte{8}, 2*api.MaxPageLen)
		mustPut(t, s, 0, memory[:n])
		mustPut(t, s, 1, memory[:n])
		mustCommit(t, s, 1)
		mustPut(t, s, 2, memory[:n])
		if !bytes.Equal(memory, bytes.Repeat([]byte{8}, len(memory))) {
			t.Fatalf("Put of %d bytes changes its argument", n)
		}
		want := bytes.Clone(memory[:n])
		clear(memory)
		for page := range 3 {
			checkPage(t, s, 2, page, want)
		}
		checkPage(t, s, 1, 0, want)
		mustCommit(t, s, 2)
		checkPage(t, mustOpen(t, d, 0, 200), 2, 2, want)
	}
}

// spoil changes all that a store returns, with the spare capacity.
func spoil(s *Store) {
	for _, list := range [][]int{s.Versions(), s.Pages(s.Version()), s.Pages(s.Version() + 1)} {
		list = list[:cap(list)]
		for i := range list {
			list[i] = 99
		}
	}
	for version := range s.Version() + 2 {
		for page := range 5 {
			b, _ := s.Get(version, page)
			b = b[:cap(b)]
			for i := range b {
				b[i] = 99
			}
		}
	}
}

// A change of a result changes nothing else, before and after Open.
func TestResults(t *testing.T) {
	d := newDisk(t, 200)
	s := mustOpen(t, d, 0, 200)
	for n := 1; n <= 3; n++ {
		mustPut(t, s, n, bytes.Repeat([]byte{byte(n)}, 30*n))
		mustCommit(t, s, n)
	}
	mustPut(t, s, 4, []byte("four"))
	before, work := image(s), text(s, 4)
	spoil(s)
	if image(s) != before || text(s, 4) != work {
		t.Fatalf("after changes of results:\n%s%s", image(s), text(s, 4))
	}
	again := mustOpen(t, d, 0, 200)
	spoil(again)
	if image(again) != before || text(again, 4) != text(again, 3) {
		t.Fatalf("after Open and changes of results:\n%s%s", image(again), text(again, 4))
	}
}

// The functions of P7.2 and P7.4 need no power and make no call that a power failure could hit.
func TestWithoutDisk(t *testing.T) {
	d := newDisk(t, 100)
	s := mustOpen(t, d, 0, 100)
	for n := 1; n <= 5; n++ {
		mustPut(t, s, n, []byte{byte(n)})
		mustCommit(t, s, n)
	}
	before := image(s)
	for _, power := range []func(){func() { d.FailAfter(0) }, func() { d.Crash(0, -1) }} {
		power()
		online, pending := d.Online(), d.Pending()
		mustPut(t, s, 7, []byte("seven"))
		checkErrno(t, "Delete", s.Delete(1), api.OK)
		checkErrno(t, "Put", s.Put(-1, nil), api.ErrRange)
		checkErrno(t, "Delete", s.Delete(1), api.ErrNotFound)
		checkPage(t, s, 6, 7, []byte("seven"))
		checkPages(t, s, 6, 2, 3, 4, 5, 7)
		s.Rollback()
		checkPages(t, s, 6, 1, 2, 3, 4, 5)
		if image(s) != before || s.Version() != 5 || !slices.Equal(s.Versions(), []int{2, 3, 4, 5}) {
			t.Fatalf("got %s, want %s", image(s), before)
		}
		if d.Online() != online || d.Pending() != pending {
			t.Fatal("the disk was accessed")
		}
	}
}
