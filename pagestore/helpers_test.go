package pagestore

import (
	"bytes"
	"math/rand/v2"
	"slices"
	"strconv"
	"testing"

	"credence/api"
	"credence/disk"
)

// newSource returns a source that gives the same numbers in every run.
func newSource(seed uint64) *rand.Rand {
	return rand.New(rand.NewPCG(seed, 7))
}

// randomBytes returns n bytes.
func randomBytes(s *rand.Rand, n int) []byte {
	out := make([]byte, n)
	for i := range out {
		out[i] = byte(s.Uint32())
	}
	return out
}

// newDisk returns a disk with power and with zeros.
func newDisk(t *testing.T, sectors int) *disk.Disk {
	t.Helper()
	d, e := disk.New(sectors)
	checkErrno(t, "disk.New", e, api.OK)
	return d
}

// mustOpen opens a store. This must succeed.
func mustOpen(t *testing.T, d *disk.Disk, from, to int) *Store {
	t.Helper()
	s, e := Open(d, from, to)
	checkErrno(t, "Open", e, api.OK)
	if s == nil {
		t.Fatal("Open: got no store and no error")
	}
	return s
}

// mustPut sets a page. This must succeed.
func mustPut(t *testing.T, s *Store, page int, b []byte) {
	t.Helper()
	checkErrno(t, "Put", s.Put(page, b), api.OK)
}

// mustCommit commits. This must succeed with this number.
func mustCommit(t *testing.T, s *Store, want int) {
	t.Helper()
	n, e := s.Commit()
	checkErrno(t, "Commit", e, api.OK)
	if n != want || s.Version() != want {
		t.Fatalf("Commit: got version %d, and Version %d, want %d", n, s.Version(), want)
	}
}

// crash lets a disk crash and switches it on again.
func crash(d *disk.Disk, keep uint64, torn int) {
	d.Crash(keep, torn)
	d.PowerOn()
}

// checkErrno fails the test if got is not want.
func checkErrno(t *testing.T, what string, got, want api.Errno) {
	t.Helper()
	if got != want {
		t.Fatalf("%s: got error %d, want %d", what, got, want)
	}
}

// checkPage checks the contents of a page.
func checkPage(t *testing.T, s *Store, version, page int, want []byte) {
	t.Helper()
	got, e := s.Get(version, page)
	if e != api.OK || !bytes.Equal(got, want) {
		t.Fatalf("page %d of version %d: got % x and error %d, want % x", page, version, got, e, want)
	}
}

// checkNoPage checks that Get returns an error and nothing else.
func checkNoPage(t *testing.T, s *Store, version, page int, want api.Errno) {
	t.Helper()
	b, e := s.Get(version, page)
	if e != want || len(b) != 0 {
		t.Fatalf("page %d of version %d: got %d bytes and error %d, want error %d", page, version, len(b), e, want)
	}
}

// checkPages checks the page numbers of a version.
func checkPages(t *testing.T, s *Store, version int, want ...int) {
	t.Helper()
	if got := s.Pages(version); !slices.Equal(got, want) {
		t.Fatalf("pages of version %d: got %v, want %v", version, got, want)
	}
}

// text describes a version.
func text(s *Store, version int) string {
	var out []byte
	for _, page := range s.Pages(version) {
		b, _ := s.Get(version, page)
		out = append(out, ' ')
		out = strconv.AppendInt(out, int64(page), 10)
		out = append(out, '=')
		out = strconv.AppendQuote(out, string(b))
	}
	return string(out)
}

// image describes all kept versions of a store.
func image(s *Store) string {
	out := ""
	for _, version := range s.Versions() {
		out += "version " + strconv.Itoa(version) + ":" + text(s, version) + "\n"
	}
	return out
}

// sectors returns the contents of a disk with power.
func sectors(t *testing.T, d *disk.Disk) []byte {
	t.Helper()
	var out []byte
	for at := range d.Size() {
		b, e := d.Read(at)
		checkErrno(t, "Read", e, api.OK)
		out = append(out, b...)
	}
	return out
}
