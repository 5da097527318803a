package disk

import "credence/api"

// shared is the bit of Crash's keep that decides the write of this number and all later ones. Each earlier write has a bit of its own.
const shared = 63

// write is a write of a whole sector.
type write struct {
	at       int
	contents []byte
}

// queue holds the pending writes as far as a crash can tell them apart, so that it stays small without a flush.
type queue struct {
	count int
	early []write // those before number shared
	// last is the last write from number shared on. It is kept apart since it may be torn.
	last write
	// middle holds the contents that the writes between early and last leave in each sector. They survive together and whole.
	middle map[int][]byte
}

// add appends a write.
func (q *queue) add(w write) {
	if q.count < shared {
		q.early = append(q.early, w)
	} else {
		q.replaceLast(w)
	}
	q.count++
}

// replaceLast makes w the last write. The one before it can no longer be torn.
func (q *queue) replaceLast(w write) {
	if q.count > shared {
		if q.middle == nil {
			q.middle = map[int][]byte{}
		}
		q.middle[q.last.at] = q.last.contents
	}
	q.last = w
}

// survivors returns the writes that survive a crash with this keep, as far as they matter to the contents. Those of middle go to distinct sectors, so that their order does not matter.
func (q *queue) survivors(keep uint64) []write {
	var out []write
	for i, w := range q.early {
		if keep>>i&1 == 1 {
			out = append(out, w)
		}
	}
	if q.count <= shared || keep>>shared == 0 {
		return out
	}
	for at, contents := range q.middle {
		out = append(out, write{at, contents})
	}
	return append(out, q.last)
}

// perform carries out writes in their order, and of the last one only the first torn bytes if it has more than these.
func perform(contents []byte, writes []write, torn int) {
	for i, w := range writes {
		n := api.SectorSize
		if i == len(writes)-1 && torn >= 0 {
			n = min(n, torn)
		}
		copy(sector(contents, w.at), w.contents[:n])
	}
}
