package pagestore

import (
	"maps"
	"slices"

	"credence/api"
	"credence/codec"
)

// pages maps the numbers of pages to their contents. The contents are never changed, so that versions may share them.
type pages map[int][]byte

// numbers returns the numbers of the pages, ascending.
func (p pages) numbers() []int {
	return slices.Sorted(maps.Keys(p))
}

// history holds the kept versions, of which there is at least one, ascending.
type history struct {
	last int // the number of the last version
	kept []pages
}

// noCommits returns the history of a store before its first commit.
func noCommits() history {
	return history{kept: []pages{{}}}
}

// first returns the number of the oldest kept version.
func (h history) first() int {
	return h.last - len(h.kept) + 1
}

// newest returns the pages of the last version.
func (h history) newest() pages {
	return h.kept[len(h.kept)-1]
}

// find returns the pages of a kept version.
func (h history) find(version int) (pages, bool) {
	if version < h.first() || version > h.last {
		return nil, false
	}
	return h.kept[version-h.first()], true
}

// extended returns the history with p as one more version. The oldest one is dropped if there are too many.
func (h history) extended(p pages) history {
	kept := append(slices.Clone(h.kept), maps.Clone(p))
	if len(kept) > api.MaxVersions {
		kept = slices.Delete(kept, 0, 1)
	}
	return history{h.last + 1, kept}
}

// encodeVersions writes, for each version, the number of its pages, and then the number and the contents of each page.
func encodeVersions(versions []pages) []byte {
	var out []byte
	for _, p := range versions {
		out = append(out, codec.EncodeUint(uint64(len(p)))...)
		for _, page := range p.numbers() {
			out = append(out, codec.EncodeUint(uint64(page))...)
			out = append(out, codec.EncodeBytes(p[page])...)
		}
	}
	return out
}

// decodeVersions reads what encodeVersions wrote for the versions that are kept if the last one is last.
func decodeVersions(last int, b []byte) ([]pages, bool) {
	r := codec.NewReader(b)
	var out []pages
	for range min(last, api.MaxVersions-1) + 1 {
		out = append(out, decodePages(r))
	}
	return out, r.Err() == api.OK && r.Remaining() == 0
}

// decodePages reads the pages of a version.
func decodePages(r *codec.Reader) pages {
	out := pages{}
	for range r.Uint(api.MaxPages) {
		page := r.Uint(api.MaxPages - 1)
		out[int(page)] = r.Bytes(api.MaxPageLen)
	}
	return out
}
