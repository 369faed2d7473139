package note

import (
	"bytes"
	"encoding/binary"
	"hash/crc32"
	"slices"
	"testing"

	"kinfolk/api"
	"kinfolk/book"
	"kinfolk/card"
	"kinfolk/code"
	"kinfolk/deed"
	"kinfolk/event"
	"kinfolk/id"
	"kinfolk/sibs"
	"kinfolk/wire"
)

func parseID(t *testing.T, s string) id.ID {
	t.Helper()
	i, err := id.Parse(s)
	if err != api.OK {
		t.Fatal(s, err)
	}
	return i
}

func parseEvent(t *testing.T, s string) event.Event {
	t.Helper()
	e, err := event.Parse(s)
	if err != api.OK {
		t.Fatal(s, err)
	}
	return e
}

func named(t *testing.T, names ...string) card.Card {
	t.Helper()
	var l []card.Field
	for _, name := range names {
		l = append(l, card.Field{Kind: card.Name, Value: name})
	}
	c, err := card.Make(l)
	if err != api.OK {
		t.Fatal(names, err)
	}
	return c
}

// wrote answers an entry of a card; of no names that it is Gone.
func wrote(t *testing.T, contact uint32, tree string, names ...string) book.Entry {
	t.Helper()
	return book.Entry{ID: contact, Version: sibs.Version{Event: parseEvent(t, tree), Card: named(t, names...), Gone: len(names) == 0}}
}

// bare answers a note of what n's kind has alone, by the chapter's words.
func bare(n Note) (Note, bool) {
	b := Note{Kind: n.Kind, From: n.From, To: n.To}
	switch n.Kind {
	case 1, 2:
		b.Session, b.Event = n.Session, n.Event
	case 3:
		b.Session, b.Seq, b.Last, b.Event, b.Entries = n.Session, n.Seq, n.Last, n.Event, n.Entries
	case 4:
		b.Session, b.Seq = n.Session, n.Seq
	case 5:
	case 6:
		b.Gift, b.Event, b.Entries = n.Gift, n.Event, n.Entries
	case 7:
		b.No = n.No
	default:
		return b, false
	}
	return b, true
}

func sameGift(a, b deed.Gift) bool {
	return a.No == b.No && a.From == b.From && a.To == b.To && id.Same(a.Share, b.Share)
}

func sameEntry(a, b book.Entry) bool {
	return a.ID == b.ID && event.Same(a.Version.Event, b.Version.Event) && card.Same(a.Version.Card, b.Version.Card) && a.Version.Gone == b.Version.Gone
}

// sameNote says whether two notes have all in common, and not what their kind
// has alone.
func sameNote(a, b Note) bool {
	return a.Kind == b.Kind && a.From == b.From && a.To == b.To && a.Session == b.Session && a.Seq == b.Seq && a.Last == b.Last &&
		event.Same(a.Event, b.Event) && slices.EqualFunc(a.Entries, b.Entries, sameEntry) && sameGift(a.Gift, b.Gift) && a.No == b.No
}

// isRight says by the chapter's words whether there may be such a note.
func isRight(n Note) bool {
	b, known := bare(n)
	if !known || !sameNote(b, n) || n.From < 0 || n.From > 11 || n.To < 0 || n.To > 11 || n.From == n.To || n.Seq < 0 || n.Seq > 255 {
		return false
	}
	if n.Kind == 3 && len(n.Entries) > 4 || n.Kind == 6 && !(n.Gift.Right() && n.Gift.From == n.From && n.Gift.To == n.To) {
		return false
	}
	for _, x := range n.Entries {
		if x.Version.Gone && x.Version.Card.Len() > 0 || !event.Leq(x.Version.Event, n.Event) {
			return false
		}
	}
	return true
}

func num(n uint64) []byte { return binary.AppendUvarint(nil, n) }

func textOf(p []byte) []byte { return append(num(uint64(len(p))), p...) }

// bodyOf answers what stands in a note's frame, whether it is Right or not.
func bodyOf(n Note) []byte {
	head := []byte{byte(n.Kind), byte(n.From), byte(n.To)}
	tree := textOf(code.Event(n.Event))
	news := book.PutEntries(nil, n.Entries)
	last := map[bool]byte{true: 1}[n.Last]
	switch n.Kind {
	case 1, 2:
		return slices.Concat(head, num(n.Session), tree)
	case 3:
		return slices.Concat(head, num(n.Session), []byte{byte(n.Seq), last}, tree, news)
	case 4:
		return slices.Concat(head, num(n.Session), []byte{byte(n.Seq)})
	case 6:
		return slices.Concat(head, deed.PutGift(nil, n.Gift), tree, news)
	case 7:
		return slices.Concat(head, num(n.No))
	}
	return head
}

// framed answers the frame of a body, by layer 6's words.
func framed(body []byte) []byte {
	p := binary.LittleEndian.AppendUint32(nil, uint32(len(body)))
	sum := crc32.ChecksumIEEE(slices.Concat(p, body))
	return append(binary.LittleEndian.AppendUint32(p, sum), body...)
}

// source reads bytes by the chapter's words, what layers below read by their
// calls.
type source struct {
	rest []byte
	bad  bool
}

func (s *source) byte() byte {
	if s.bad || len(s.rest) == 0 {
		s.bad = true
		return 0
	}
	b := s.rest[0]
	s.rest = s.rest[1:]
	return b
}

func (s *source) num() uint64 {
	n, size := binary.Uvarint(s.rest)
	if s.bad || size <= 0 || len(num(n)) != size {
		s.bad = true
		return 0
	}
	s.rest = s.rest[size:]
	return n
}

func (s *source) event() event.Event {
	n := s.num()
	if s.bad || n > uint64(len(s.rest)) {
		s.bad = true
		return event.Event{}
	}
	e, err := code.ReadEvent(s.rest[:n])
	s.bad = err != api.OK
	s.rest = s.rest[n:]
	return e
}

// by reads what a call of a layer below reads of an In.
func (s *source) by(get func(*wire.In)) {
	in := wire.Of(s.rest)
	get(in)
	s.bad = s.bad || in.Err() != api.OK
	s.rest = s.rest[len(s.rest)-in.Left():]
}

func (s *source) entries() (l []book.Entry) {
	s.by(func(in *wire.In) { l = book.GetEntries(in) })
	return l
}

// noteOf answers the note that a frame tells, by the chapter's words.
func noteOf(p []byte) (Note, api.Errno) {
	body, size, err := wire.Open(p)
	if err != api.OK {
		return Note{}, err
	}
	s := &source{rest: body}
	var n Note
	n.Kind, n.From, n.To = int(s.byte()), int(s.byte()), int(s.byte())
	switch n.Kind {
	case 1, 2:
		n.Session, n.Event = s.num(), s.event()
	case 3:
		n.Session, n.Seq = s.num(), int(s.byte())
		last := s.byte()
		n.Last = last == 1
		s.bad = s.bad || last > 1
		n.Event, n.Entries = s.event(), s.entries()
	case 4:
		n.Session, n.Seq = s.num(), int(s.byte())
	case 6:
		s.by(func(in *wire.In) { n.Gift = deed.GetGift(in) })
		n.Event, n.Entries = s.event(), s.entries()
	case 7:
		n.No = s.num()
	}
	if s.bad || len(s.rest) > 0 || size < len(p) || !isRight(n) {
		return Note{}, api.ErrForm
	}
	return n, api.OK
}

// mustTell holds what a note tells against the model, and answers whether it
// is Right.
func mustTell(t *testing.T, n Note) bool {
	t.Helper()
	want := isRight(n)
	if n.Right() != want {
		t.Fatalf("%+v: wanted %v", n, want)
	}
	p, err := n.Bytes()
	if !want {
		if err != api.ErrArg || p != nil {
			t.Fatalf("%+v: %x, %d", n, p, err)
		}
		return false
	}
	if err != api.OK || !bytes.Equal(p, framed(bodyOf(n))) {
		t.Fatalf("%+v: %x, %d; wanted %x", n, p, err, framed(bodyOf(n)))
	}
	if got, err := Read(p); err != api.OK || !sameNote(got, n) {
		t.Fatalf("%+v: %+v %d", n, got, err)
	}
	return true
}

// mustRead holds Read of p against the model, and answers its error.
func mustRead(t *testing.T, p []byte) api.Errno {
	t.Helper()
	want, wantErr := noteOf(p)
	n, err := Read(p)
	if err != wantErr || !sameNote(n, want) {
		t.Fatalf("%.200x: %+v %d, wanted %+v %d", p, n, err, want, wantErr)
	}
	if err == api.OK {
		if again, err := n.Bytes(); err != api.OK || !bytes.Equal(again, p) {
			t.Fatalf("%x: %x", p, again)
		}
	}
	return err
}

// scrub writes over all of a list, and its spare room.
func scrub[T any](l []T, by T) {
	l = l[:cap(l)]
	for i := range l {
		l[i] = by
	}
}
