package node

import (
	"bytes"
	"encoding/binary"
	"math"
	"slices"
	"testing"

	"kinfolk/api"
	"kinfolk/book"
	"kinfolk/card"
	"kinfolk/code"
	"kinfolk/deed"
	"kinfolk/disk"
	"kinfolk/event"
	"kinfolk/id"
	"kinfolk/paper"
	"kinfolk/sibs"
	"kinfolk/stamp"
	"kinfolk/wire"
)

func parseID(t *testing.T, s string) id.ID {
	t.Helper()
	i, err := id.Parse(s)
	if err != api.OK {
		t.Fatal(s, err)
	}
	return i
}

func parseEvent(t *testing.T, s string) event.Event {
	t.Helper()
	e, err := event.Parse(s)
	if err != api.OK {
		t.Fatal(s, err)
	}
	return e
}

func named(t *testing.T, names ...string) card.Card {
	t.Helper()
	var l []card.Field
	for _, name := range names {
		l = append(l, card.Field{Kind: card.Name, Value: name})
	}
	c, err := card.Make(l)
	if err != api.OK {
		t.Fatal(names, err)
	}
	return c
}

// wrote answers an entry of a card; of no names that it is Gone.
func wrote(t *testing.T, contact uint32, tree string, names ...string) book.Entry {
	t.Helper()
	return book.Entry{ID: contact, Version: sibs.Version{Event: parseEvent(t, tree), Card: named(t, names...), Gone: len(names) == 0}}
}

// model is a node by the chapter's words. It is made anew of bytes for each
// operation, so that one that isn't done leaves nothing behind.
type model struct {
	book, deeds []byte
	self        int
	parent      int
	leaving     bool
	boots       uint64
}

func newModel(self, parent int, seed bool) *model {
	s := stamp.Stamp{}
	if seed {
		s = stamp.Seed()
	}
	return &model{book: book.New(s).Bytes(), deeds: deed.New(self).Bytes(), self: self, parent: parent}
}

func (m *model) copy() *model {
	c := *m
	return &c
}

// do does an operation with the model.
func (m *model) do(o Op) (deed.Gift, api.Errno) {
	b, _ := book.Read(m.book)
	d, _ := deed.Read(m.deeds)
	next := m.copy()
	g, err := next.doWith(o, b, d)
	// Only what can be told is done.
	if err == api.OK {
		_, err = bytesOf(o)
	}
	if err != api.OK {
		return deed.Gift{}, err
	}
	next.book, next.deeds = b.Bytes(), d.Bytes()
	*m = *next
	return g, api.OK
}

func (m *model) doWith(o Op, b *book.Book, d *deed.Deeds) (g deed.Gift, err api.Errno) {
	switch o.Kind {
	case 1:
		_, err = b.Put(o.Contact, o.Card)
	case 2:
		_, err = b.Edit(o.Contact, o.Patch)
	case 3:
		_, err = b.Delete(o.Contact)
	case 4:
		_, err = b.Resolve(o.Contact, o.Card)
	case 5:
		err = b.Take(o.Event, o.Entries)
	case 6:
		share, e := b.Give(false)
		if e != api.OK {
			return g, e
		}
		return d.Give(o.To, share)
	case 7:
		if m.parent < 0 || m.leaving {
			return g, api.ErrState
		}
		share, e := b.Give(true)
		if e != api.OK {
			return g, e
		}
		m.leaving = true
		return d.Give(m.parent, share)
	case 8:
		err = d.Done(o.No)
	case 9:
		for _, step := range []func() api.Errno{
			func() api.Errno { return d.Take(o.Gift) },
			func() api.Errno { return b.Take(o.Event, o.Entries) },
			func() api.Errno { return b.Gain(o.Gift.Share) },
		} {
			if err := step(); err != api.OK {
				return g, err
			}
		}
	case 10:
		if o.To < -1 || o.To >= 12 || o.To == m.self {
			return g, api.ErrArg
		}
		if m.leaving {
			return g, api.ErrState
		}
		m.parent = o.To
	case 11:
		m.boots++
	default:
		return g, api.ErrArg
	}
	return g, err
}

func num(p []byte, n uint64) []byte { return binary.AppendUvarint(p, n) }

func textOf(p []byte) []byte { return append(num(nil, uint64(len(p))), p...) }

// state answers the bytes of the model's state.
func (m *model) state() []byte {
	return stateOf(m.book, m.deeds, uint64(m.parent+1), map[bool]byte{true: 1}[m.leaving], m.boots)
}

// stateOf answers the bytes of such a state, whether there may be such or not.
func stateOf(b, d []byte, parent uint64, leaving byte, boots uint64) []byte {
	p := slices.Concat(textOf(b), textOf(d))
	return num(append(num(p, parent), leaving), boots)
}

// bytesOf answers the bytes of an operation, by the chapter's words.
func bytesOf(o Op) ([]byte, api.Errno) {
	p := []byte{byte(o.Kind)}
	contact := num(nil, uint64(o.Contact))
	tree := textOf(code.Event(o.Event))
	news := book.PutEntries(nil, o.Entries)
	switch o.Kind {
	case 1, 4:
		return slices.Concat(p, contact, paper.Card(o.Card)), api.OK
	case 2:
		patch, err := paper.Patch(o.Patch)
		if err != api.OK {
			return nil, err
		}
		return slices.Concat(p, contact, textOf(patch)), api.OK
	case 3:
		return slices.Concat(p, contact), api.OK
	case 5:
		return slices.Concat(p, tree, news), api.OK
	case 6, 10:
		return num(p, uint64(int64(o.To)+1)), api.OK
	case 8:
		return num(p, o.No), api.OK
	case 9:
		return slices.Concat(deed.PutGift(p, o.Gift), tree, news), api.OK
	}
	return p, api.OK
}

// source reads bytes by the chapter's words, what layers below read by their
// calls.
type source struct {
	rest []byte
	bad  bool
}

func (s *source) byte() byte {
	if s.bad || len(s.rest) == 0 {
		s.bad = true
		return 0
	}
	b := s.rest[0]
	s.rest = s.rest[1:]
	return b
}

func (s *source) num() uint64 {
	n, size := binary.Uvarint(s.rest)
	if s.bad || size <= 0 || len(num(nil, n)) != size {
		s.bad = true
		return 0
	}
	s.rest = s.rest[size:]
	return n
}

func (s *source) text() []byte {
	n := s.num()
	if s.bad || n > uint64(len(s.rest)) {
		s.bad = true
		return nil
	}
	p := s.rest[:n]
	s.rest = s.rest[n:]
	return p
}

// by reads what a call of a layer below reads of an In.
func (s *source) by(get func(*wire.In)) {
	in := wire.Of(s.rest)
	get(in)
	s.bad = s.bad || in.Err() != api.OK
	s.rest = s.rest[len(s.rest)-in.Left():]
}

func (s *source) contact() uint32 {
	n := s.num()
	s.bad = s.bad || n > 1<<32-1
	return uint32(n)
}

func (s *source) card() (c card.Card) {
	s.by(func(in *wire.In) { c = paper.GetCard(in) })
	return c
}

func (s *source) entries() (l []book.Entry) {
	s.by(func(in *wire.In) { l = book.GetEntries(in) })
	return l
}

func (s *source) event() event.Event {
	e, err := code.ReadEvent(s.text())
	s.bad = s.bad || err != api.OK
	return e
}

// to reads a node's number and one: 2^64 less stands for what is below -1.
func (s *source) to() int {
	n := s.num()
	if n > math.MaxInt64+1 {
		return -int(-n) - 1
	}
	return int(n - 1)
}

// opOf answers the operation that bytes tell, by the chapter's words.
func opOf(p []byte) (Op, bool) {
	s := &source{rest: p}
	o := Op{Kind: int(s.byte())}
	switch o.Kind {
	case 1, 4:
		o.Contact, o.Card = s.contact(), s.card()
	case 2:
		o.Contact = s.contact()
		patch, err := paper.ReadPatch(s.text())
		o.Patch = patch
		s.bad = s.bad || err != api.OK
	case 3:
		o.Contact = s.contact()
	case 5:
		o.Event, o.Entries = s.event(), s.entries()
	case 6, 10:
		o.To = s.to()
	case 8:
		o.No = s.num()
	case 9:
		s.by(func(in *wire.In) { o.Gift = deed.GetGift(in) })
		o.Event, o.Entries = s.event(), s.entries()
	case 7, 11:
	default:
		s.bad = true
	}
	if s.bad || len(s.rest) > 0 {
		return Op{}, false
	}
	return o, true
}

// modelOf answers the node whose state bytes tell, by the chapter's words.
func modelOf(p []byte) (*model, bool) {
	s := &source{rest: p}
	m := &model{book: s.text(), deeds: s.text()}
	_, bookErr := book.Read(m.book)
	d, deedErr := deed.Read(m.deeds)
	m.self = d.Self()
	parent := s.num()
	m.parent = int(parent) - 1
	leaving := s.byte()
	m.leaving = leaving == 1
	m.boots = s.num()
	if s.bad || len(s.rest) > 0 || bookErr != api.OK || deedErr != api.OK || parent > 12 || m.parent == m.self || leaving > 1 {
		return nil, false
	}
	return m, true
}

func sameGift(a, b deed.Gift) bool {
	return a.No == b.No && a.From == b.From && a.To == b.To && id.Same(a.Share, b.Share)
}

func samePatch(a, b card.Patch) bool {
	return slices.Equal(a.Adds, b.Adds) && slices.Equal(a.Drops, b.Drops) && slices.Equal(a.Clear, b.Clear)
}

func sameEntry(a, b book.Entry) bool {
	return a.ID == b.ID && event.Same(a.Version.Event, b.Version.Event) && card.Same(a.Version.Card, b.Version.Card) && a.Version.Gone == b.Version.Gone
}

// sameOp says whether two operations have all in common, and not what their
// kind takes alone.
func sameOp(a, b Op) bool {
	return a.Kind == b.Kind && a.Contact == b.Contact && card.Same(a.Card, b.Card) && samePatch(a.Patch, b.Patch) &&
		event.Same(a.Event, b.Event) && slices.EqualFunc(a.Entries, b.Entries, sameEntry) && sameGift(a.Gift, b.Gift) && a.To == b.To && a.No == b.No
}

// mustTell holds what a node tells against its model.
func mustTell(t *testing.T, n *Node, m *model) {
	t.Helper()
	if !bytes.Equal(n.State(), m.state()) {
		t.Fatalf("%x, wanted %x", n.State(), m.state())
	}
	if !bytes.Equal(n.Book().Bytes(), m.book) || !bytes.Equal(n.Deeds().Bytes(), m.deeds) {
		t.Fatal("book or deeds")
	}
	if n.Parent() != m.parent || n.Leaving() != m.leaving || n.Boots() != m.boots {
		t.Fatalf("%d %v %d, wanted %d %v %d", n.Parent(), n.Leaving(), n.Boots(), m.parent, m.leaving, m.boots)
	}
}

// records answers the records of a node's log.
func records(n *Node) [][]byte { return slices.Collect(n.Log().Records()) }

// mustDo does an operation with both, on a disk with the segments of that
// size, and asks for the same answer, for what must stand in the log then, and
// that nothing has changed beside an error. It answers that.
func mustDo(t *testing.T, n *Node, m *model, size int, o Op) (deed.Gift, api.Errno) {
	t.Helper()
	d := n.Log().Disk()
	before, was := d.Copy(), records(n)
	seg, state := n.Log().Seg(), n.Log().State()
	next := m.copy()
	want, wantErr := next.do(o)
	record, _ := bytesOf(o)
	if wantErr == api.OK && before.Used()+9+len(record) > before.Room() {
		want, wantErr = deed.Gift{}, api.ErrFull
	}
	g, err := n.Do(o)
	if err != wantErr || !sameGift(g, want) {
		t.Fatalf("%+v: %v %d, wanted %v %d", o, g, err, want, wantErr)
	}
	if err != api.OK {
		if !disk.Same(before, d) {
			t.Fatalf("%+v: %d changed the disk", o, err)
		}
		mustTell(t, n, m)
		return g, err
	}
	*m = *next
	mustTell(t, n, m)
	used, _ := before.Read(seg)
	isLong := len(used)+9+len(record) > size
	if isLong && before.Used()+9+len(record)+9+len(m.state()) <= before.Room() {
		seg, state, was = slices.Max(before.Segs())+1, m.state(), nil
	} else {
		was = append(was, record)
	}
	l := n.Log()
	if l.Seg() != seg || !bytes.Equal(l.State(), state) || !slices.EqualFunc(records(n), was, bytes.Equal) {
		t.Fatalf("%+v: the log has %d: %x %x", o, l.Seg(), l.State(), records(n))
	}
	return g, err
}

// mustOpen opens a node anew that must be like the model; nothing is written.
func mustOpen(t *testing.T, d *disk.Disk, size int, m *model) *Node {
	t.Helper()
	before := d.Copy()
	n, err := Open(d, size)
	if err != api.OK || !disk.Same(before, d) || n.Log().Disk() != d {
		t.Fatal(err)
	}
	mustTell(t, n, m)
	return n
}

// mustFormat answers a new node, and its model.
func mustFormat(t *testing.T, d *disk.Disk, size, self, parent int, seed bool) (*Node, *model) {
	t.Helper()
	n, err := Format(d, size, self, parent, seed)
	if err != api.OK || n.Log().Disk() != d || n.Log().Torn() || n.Log().Count() != 0 {
		t.Fatal(err)
	}
	m := newModel(self, parent, seed)
	mustTell(t, n, m)
	if !bytes.Equal(n.Log().State(), m.state()) {
		t.Fatal("not saved")
	}
	return n, m
}

// scrub writes over all of a list, and its spare room.
func scrub[T any](l []T, by T) {
	l = l[:cap(l)]
	for i := range l {
		l[i] = by
	}
}
