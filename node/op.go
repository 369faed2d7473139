package node

import (
	"math"

	"kinfolk/api"
	"kinfolk/book"
	"kinfolk/card"
	"kinfolk/code"
	"kinfolk/deed"
	"kinfolk/event"
	"kinfolk/paper"
	"kinfolk/wire"
)

// Op is something that is done: its kind, and what that takes.
type Op struct {
	Kind    int
	Contact uint32
	Card    card.Card
	Patch   card.Patch
	Event   event.Event
	Entries []book.Entry
	Gift    deed.Gift
	To      int
	No      uint64
}

// The kinds.
const (
	Put     = 1
	Edit    = 2
	Delete  = 3
	Resolve = 4
	Take    = 5
	Give    = 6
	Leave   = 7
	Done    = 8
	Accept  = 9
	Parent  = 10
	Boot    = 11
)

// part is something that an operation takes: how that goes to bytes, and back.
type part struct {
	put func(Op) ([]byte, api.Errno)
	get func(*Op, *wire.In)
}

// parts answers what operations take, by their kinds, in the order of their
// bytes.
func parts() map[int][]part {
	contact := part{put: Op.putContact, get: (*Op).getContact}
	whole := part{put: Op.putCard, get: (*Op).getCard}
	change := part{put: Op.putPatch, get: (*Op).getPatch}
	tree := part{put: Op.putEvent, get: (*Op).getEvent}
	news := part{put: Op.putEntries, get: (*Op).getEntries}
	gift := part{put: Op.putGift, get: (*Op).getGift}
	to := part{put: Op.putTo, get: (*Op).getTo}
	no := part{put: Op.putNo, get: (*Op).getNo}
	return map[int][]part{
		Put:     {contact, whole},
		Edit:    {contact, change},
		Delete:  {contact},
		Resolve: {contact, whole},
		Take:    {tree, news},
		Give:    {to},
		Leave:   {},
		Done:    {no},
		Accept:  {gift, tree, news},
		Parent:  {to},
		Boot:    {},
	}
}

// Bytes answers the bytes of an operation.
func (o Op) Bytes() ([]byte, api.Errno) {
	p := []byte{byte(o.Kind)}
	for _, x := range parts()[o.Kind] {
		b, err := x.put(o)
		if err != api.OK {
			return nil, err
		}
		p = append(p, b...)
	}
	return p, api.OK
}

// Read answers the operation that has just these bytes.
func Read(p []byte) (Op, api.Errno) {
	in := wire.Of(p)
	o := Op{Kind: int(in.Byte())}
	takes, known := parts()[o.Kind]
	for _, x := range takes {
		x.get(&o, in)
	}
	if !known || in.End() != api.OK {
		return Op{}, api.ErrForm
	}
	return o, api.OK
}

func (o Op) putContact() ([]byte, api.Errno) { return wire.Num(nil, uint64(o.Contact)), api.OK }

func (o *Op) getContact(in *wire.In) {
	n := in.Num()
	if n > math.MaxUint32 {
		in.Fail(api.ErrForm)
	}
	o.Contact = uint32(n)
}

func (o Op) putCard() ([]byte, api.Errno) { return paper.Card(o.Card), api.OK }

func (o *Op) getCard(in *wire.In) { o.Card = paper.GetCard(in) }

func (o Op) putPatch() ([]byte, api.Errno) {
	p, err := paper.Patch(o.Patch)
	return wire.Text(nil, string(p)), err
}

func (o *Op) getPatch(in *wire.In) { o.Patch = getText(in, paper.ReadPatch) }

func (o Op) putEvent() ([]byte, api.Errno) {
	return wire.Text(nil, string(code.Event(o.Event))), api.OK
}

func (o *Op) getEvent(in *wire.In) { o.Event = getText(in, code.ReadEvent) }

func (o Op) putEntries() ([]byte, api.Errno) { return book.PutEntries(nil, o.Entries), api.OK }

func (o *Op) getEntries(in *wire.In) { o.Entries = book.GetEntries(in) }

func (o Op) putGift() ([]byte, api.Errno) { return deed.PutGift(nil, o.Gift), api.OK }

func (o *Op) getGift(in *wire.In) { o.Gift = deed.GetGift(in) }

func (o Op) putTo() ([]byte, api.Errno) { return putNode(nil, o.To), api.OK }

func (o *Op) getTo(in *wire.In) { o.To = getNode(in) }

func (o Op) putNo() ([]byte, api.Errno) { return wire.Num(nil, o.No), api.OK }

func (o *Op) getNo(in *wire.In) { o.No = in.Num() }

// putNode answers p, and behind it a node's number and one, so that none is 0;
// others below 0 wrap round.
func putNode(p []byte, k int) []byte { return wire.Num(p, uint64(k)+1) }

// getNode reads the next node's number.
func getNode(in *wire.In) int { return int(in.Num() - 1) }

// getText reads the next text, and answers what that tells.
func getText[T any](in *wire.In, read func([]byte) (T, api.Errno)) T {
	// No text of a record has as many bytes as a record may have.
	x, err := read([]byte(in.Text(api.MaxRecord)))
	in.Fail(err)
	return x
}
