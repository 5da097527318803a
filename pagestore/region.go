package pagestore

import (
	"bytes"

	"credence/api"
	"credence/disk"
)

// The sectors of a store, counted from its first one: a mark, a header for even and one for odd versions, and two halves that hold the bodies of these headers.
const (
	markSector  = 0
	firstHeader = 1
	firstBody   = 3
)

// markText ends the mark. The zeros before it keep a torn write of the mark from looking like the data of others.
const markText = "credence pages 1"

// region is the part of a disk in which a store lives.
type region struct {
	disk       *disk.Disk
	from, size int
}

// half returns the number of sectors of a half.
func (r region) half() int {
	return (r.size - firstBody) / 2
}

// capacity returns the number of bytes that fit into a half.
func (r region) capacity() int {
	return r.half() * api.SectorSize
}

// headerSector returns the sector of the header of a version.
func (r region) headerSector(version int) int {
	return firstHeader + version%2
}

// bodySector returns the first sector of the body of a version.
func (r region) bodySector(version int) int {
	return firstBody + version%2*r.half()
}

// mark returns the contents of the sector which tells that this package wrote the others.
func mark() []byte {
	return append(make([]byte, api.SectorSize-len(markText)), markText...)
}

// commit stores body, durably, as the body of a version, and leaves the version before it as it is.
//
// Each step is durable before the next one begins. So no sector but the mark is in use before the mark is complete, and a header is complete only while its body is.
func (r region) commit(version int, body []byte) api.Errno {
	steps := []struct {
		at       int
		contents []byte
	}{
		{markSector, mark()},
		{r.headerSector(version), make([]byte, api.SectorSize)},
		{r.bodySector(version), body},
		{r.headerSector(version), header(version, r.size, body)},
	}
	for _, step := range steps {
		if e := r.write(step.at, step.contents); e != api.OK {
			return e
		}
	}
	return api.OK
}

// write makes b the contents of the sectors from at on, durably.
func (r region) write(at int, b []byte) api.Errno {
	for i := 0; i < len(b); i += api.SectorSize {
		part := b[i:min(i+api.SectorSize, len(b))]
		if e := r.disk.Write(r.from+at+i/api.SectorSize, part); e != api.OK {
			return e
		}
	}
	return r.disk.Flush()
}

// read returns the contents of all sectors.
func (r region) read() ([]byte, api.Errno) {
	var out []byte
	for at := range r.size {
		b, e := r.disk.Read(r.from + at)
		if e != api.OK {
			return nil, e
		}
		out = append(out, b...)
	}
	return out, api.OK
}

// parse returns the versions that the contents of all sectors hold, or false if this package did not write these.
func (r region) parse(contents []byte) (history, bool) {
	if isUnused(contents) {
		return noCommits(), true
	}
	if !bytes.HasPrefix(contents, mark()) {
		return history{}, false
	}
	version := 0
	for parity := range 2 {
		version = max(version, headerVersion(sector(contents, r.headerSector(parity))))
	}
	if version == 0 {
		return noCommits(), true
	}
	return r.versions(contents, version)
}

// versions returns the versions that were kept when the version with this complete header was committed.
func (r region) versions(contents []byte, version int) (history, bool) {
	head := sector(contents, r.headerSector(version))
	length := word(head, lengthWord)
	if length > uint64(r.capacity()) {
		return history{}, false
	}
	body := contents[r.bodySector(version)*api.SectorSize:][:length]
	if !bytes.Equal(head, header(version, r.size, body)) {
		return history{}, false
	}
	kept, ok := decodeVersions(version, body)
	return history{version, kept}, ok
}

// sector returns a sector of the contents.
func sector(contents []byte, at int) []byte {
	return contents[at*api.SectorSize:][:api.SectorSize]
}

// isUnused reports whether the contents are zeros, but for a mark that may be torn.
func isUnused(contents []byte) bool {
	m, n := mark(), 0
	for n < len(m) && contents[n] == m[n] {
		n++
	}
	return bytes.Count(contents[n:], []byte{0}) == len(contents)-n
}
