package note

import (
	"kinfolk/api"
	"kinfolk/book"
	"kinfolk/code"
	"kinfolk/deed"
	"kinfolk/event"
	"kinfolk/wire"
)

// The byte that tells whether a batch is the last one.
const (
	aFurther = 0
	aLast    = 1
)

// Bytes answers the frame of a note.
func (n Note) Bytes() ([]byte, api.Errno) {
	if !n.Right() {
		return nil, api.ErrArg
	}
	p := []byte{byte(n.Kind), byte(n.From), byte(n.To)}
	own, _ := has(n.Kind)
	for _, x := range own {
		p = append(p, n.put(x)...)
	}
	f := wire.Frame(p)
	if len(f) > api.MaxFrame {
		return nil, api.ErrLong
	}
	return f, api.OK
}

// put answers the bytes of a part.
func (n Note) put(part int) []byte {
	switch part {
	case session:
		return wire.Num(nil, n.Session)
	case seq:
		return []byte{byte(n.Seq)}
	case last:
		if n.Last {
			return []byte{aLast}
		}
		return []byte{aFurther}
	case tree:
		return wire.Text(nil, string(code.Event(n.Event)))
	case entries:
		return book.PutEntries(nil, n.Entries)
	case gift:
		return deed.PutGift(nil, n.Gift)
	}
	return wire.Num(nil, n.No)
}

// Read answers the note that has just this frame.
func Read(p []byte) (Note, api.Errno) {
	body, size, err := wire.Open(p)
	if err != api.OK {
		return Note{}, err
	}
	n, whole := of(body)
	if size < len(p) || !whole || !n.Right() {
		return Note{}, api.ErrForm
	}
	return n, api.OK
}

// of answers the note that a frame's bytes tell; false: they tell none.
func of(body []byte) (Note, bool) {
	in := wire.Of(body)
	n := Note{Kind: int(in.Byte()), From: int(in.Byte()), To: int(in.Byte())}
	own, known := has(n.Kind)
	for _, x := range own {
		n.get(x, in)
	}
	return n, known && in.End() == api.OK
}

// get reads a part.
func (n *Note) get(part int, in *wire.In) {
	switch part {
	case session:
		n.Session = in.Num()
	case seq:
		n.Seq = int(in.Byte())
	case last:
		n.Last = getLast(in)
	case tree:
		n.Event = getTree(in)
	case entries:
		n.Entries = book.GetEntries(in)
	case gift:
		n.Gift = deed.GetGift(in)
	case no:
		n.No = in.Num()
	}
}

func getLast(in *wire.In) bool {
	b := in.Byte()
	if b > aLast {
		in.Fail(api.ErrForm)
	}
	return b == aLast
}

func getTree(in *wire.In) event.Event {
	// No text of a frame has more bytes than a frame may have.
	e, err := code.ReadEvent([]byte(in.Text(api.MaxFrame)))
	in.Fail(err)
	return e
}
