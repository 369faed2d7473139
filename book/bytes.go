package book

import (
	"bytes"
	"math"

	"kinfolk/api"
	"kinfolk/code"
	"kinfolk/sibs"
	"kinfolk/stamp"
	"kinfolk/wire"
)

// How many bytes of a stamp, and of a version, are read.
const (
	mostStamp   = 8192
	mostVersion = 8192
)

// Bytes answers the bytes of a book.
func (b *Book) Bytes() []byte {
	if b == nil {
		return nil
	}
	p := wire.Text(nil, string(code.Stamp(b.stamp)))
	// Missing would leave out those of a tree of noughts.
	return PutEntries(p, b.entries(sibs.Set.List))
}

// Read answers the book that has just these bytes.
func Read(p []byte) (*Book, api.Errno) {
	in := wire.Of(p)
	b := New(getStamp(in))
	l := GetEntries(in)
	if err := in.End(); err != api.OK {
		return nil, err
	}
	b.sets = b.with(l)
	// All else is read in its one form alone: so other bytes say that the
	// entries aren't just those of the sets, in the sets' order.
	if !within(b.stamp.Event, l) || !bytes.Equal(b.Bytes(), p) {
		return nil, api.ErrForm
	}
	if isFull(b.sets) {
		return nil, api.ErrFull
	}
	return b, api.OK
}

// getStamp reads the next stamp.
func getStamp(in *wire.In) stamp.Stamp {
	s, err := code.ReadStamp([]byte(in.Text(mostStamp)))
	in.Fail(err)
	return s
}

// PutEntries answers p, and behind it how many l has, and these.
func PutEntries(p []byte, l []Entry) []byte {
	p = wire.Num(p, uint64(len(l)))
	for _, x := range l {
		// Each made alone: wire would lay all of p anew for each part.
		p = append(p, x.bytes()...)
	}
	return p
}

func (x Entry) bytes() []byte {
	return wire.Text(wire.Num(nil, uint64(x.ID)), string(x.Version.Bytes()))
}

// GetEntries reads the next entries.
func GetEntries(in *wire.In) []Entry {
	var l []Entry
	for range in.Num() {
		l = append(l, getEntry(in))
		// However many are told, there are no more than there are bytes for.
		if in.Err() != api.OK {
			return nil
		}
	}
	return l
}

// getEntry reads the next entry; what it answers is one only if in has no
// error behind it.
func getEntry(in *wire.In) Entry {
	id := in.Num()
	if id > math.MaxUint32 {
		in.Fail(api.ErrForm)
	}
	v, err := sibs.ReadVersion([]byte(in.Text(mostVersion)))
	in.Fail(err)
	return Entry{ID: uint32(id), Version: v}
}
