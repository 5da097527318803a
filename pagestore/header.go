package pagestore

import (
	"math"

	"credence/api"
	"credence/checksum"
)

// A header is a sector of words, 64-bit numbers with the highest byte first. The words that are not named here are 0.
const (
	versionWord  = 0
	sizeWord     = 1 // the number of sectors of the store
	lengthWord   = 2 // the number of bytes of the body
	checksumWord = 3 // the checksum of the words above and of the body
	endWord      = 7 // the version again
	wordCount    = 8
	wordBytes    = api.SectorSize / wordCount
)

// header returns the header of a body.
func header(version, size int, body []byte) []byte {
	var words [wordCount]uint64
	words[versionWord] = uint64(version)
	words[sizeWord] = uint64(size)
	words[lengthWord] = uint64(len(body))
	crc := checksum.CRC(encodeWords(words[:checksumWord]))
	words[checksumWord] = uint64(checksum.ExtendCRC(crc, body))
	words[endWord] = uint64(version)
	return encodeWords(words[:])
}

// headerVersion returns the version of a complete header, or 0 if there is none.
//
// It needs no checksum: headers and zeros are written in turns, each of them durably before the next. So what torn writes leave has different numbers at its two ends, or 0 at both, unless it is a whole header. No store has more than 2^31 - 1 versions (R10).
func headerVersion(head []byte) int {
	version := word(head, versionWord)
	if version != word(head, endWord) || version > math.MaxInt32 {
		return 0
	}
	return int(version)
}

// encodeWords writes words one after another.
func encodeWords(words []uint64) []byte {
	var out []byte
	for _, n := range words {
		for i := range wordBytes {
			out = append(out, byte(n>>(8*(wordBytes-1-i))))
		}
	}
	return out
}

// word returns word i of a header.
func word(head []byte, i int) uint64 {
	var n uint64
	for _, x := range head[i*wordBytes:][:wordBytes] {
		n = n<<8 | uint64(x)
	}
	return n
}
