package log

import (
	"iter"

	"kinfolk/api"
	"kinfolk/wire"
)

// The byte that a frame's own begin with.
const (
	aRecord = 0
	aState  = 1
)

const (
	firstSeg = 1
	mostPart = api.MaxRecord - 1 // bytes of a state, or of a record
)

// frame answers the frame of a state, or of a record.
func frame(kind byte, p []byte) []byte {
	return wire.Frame(append([]byte{kind}, p...))
}

// part answers the state, or the record, whose frame p begins with, and how
// many bytes that frame has; false: there is none of that kind.
func part(p []byte, kind byte) ([]byte, int, bool) {
	body, size, err := wire.Open(p)
	if err != api.OK || len(body) == 0 || body[0] != kind {
		return nil, 0, false
	}
	return body[1:], size, true
}

// records goes through the records whose frames p begins with, and tells how
// many bytes each one's frame has.
func records(p []byte) iter.Seq2[[]byte, int] {
	return func(yield func([]byte, int) bool) {
		for at := 0; ; {
			record, size, ok := part(p[at:], aRecord)
			if !ok || !yield(record, size) {
				return
			}
			at += size
		}
	}
}

// above answers the number one above the greatest of segs, which rise; 0:
// there is none.
func above(segs []uint64) uint64 {
	if len(segs) == 0 {
		return firstSeg
	}
	return segs[len(segs)-1] + 1
}
