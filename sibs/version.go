package sibs

import (
	"bytes"

	"kinfolk/api"
	"kinfolk/card"
	"kinfolk/code"
	"kinfolk/event"
	"kinfolk/paper"
	"kinfolk/wire"
)

// mostTree is how many bytes of a tree are read.
const mostTree = 4096

// The byte that tells what stands behind a version's tree.
const (
	aCard = 0
	gone  = 1
)

// Version is what somebody wrote, and what he had seen then.
type Version struct {
	Event event.Event
	Card  card.Card
	Gone  bool
}

// Right says whether v may stand in a set.
func (v Version) Right() bool { return !v.Gone || v.Card.Len() == 0 }

// Bytes answers the bytes of a version.
func (v Version) Bytes() []byte {
	p := wire.Text(nil, string(code.Event(v.Event)))
	if v.Gone {
		return append(p, gone)
	}
	return paper.PutCard(append(p, aCard), v.Card)
}

// ReadVersion answers the version that has just these bytes.
func ReadVersion(p []byte) (Version, api.Errno) {
	in := wire.Of(p)
	v := getVersion(in)
	if err := in.End(); err != api.OK {
		return Version{}, err
	}
	return v, api.OK
}

// getVersion reads the next version; what it answers is one only if in has no
// error behind it.
func getVersion(in *wire.In) Version {
	e, err := code.ReadEvent([]byte(in.Text(mostTree)))
	in.Fail(err)
	v := Version{Event: e}
	switch in.Byte() {
	case aCard:
		v.Card = paper.GetCard(in)
	case gone:
		v.Gone = true
	default:
		in.Fail(api.ErrForm)
	}
	return v
}

// Same says whether a and b have the same bytes.
func Same(a, b Version) bool { return bytes.Equal(a.Bytes(), b.Bytes()) }

// Less says whether a's bytes stand ahead of b's.
func Less(a, b Version) bool { return bytes.Compare(a.Bytes(), b.Bytes()) < 0 }

// Under says whether b's writer has seen a.
func Under(a, b Version) bool {
	return event.Leq(a.Event, b.Event) && !event.Leq(b.Event, a.Event)
}
