package book

import (
	"bytes"
	"encoding/binary"
	"slices"
	"strings"
	"testing"

	"kinfolk/api"
	"kinfolk/card"
	"kinfolk/code"
	"kinfolk/event"
	"kinfolk/id"
	"kinfolk/sibs"
	"kinfolk/stamp"
)

func parseID(t *testing.T, s string) id.ID {
	t.Helper()
	i, err := id.Parse(s)
	if err != api.OK {
		t.Fatal(s, err)
	}
	return i
}

func parseEvent(t *testing.T, s string) event.Event {
	t.Helper()
	e, err := event.Parse(s)
	if err != api.OK {
		t.Fatal(s, err)
	}
	return e
}

// stampOf answers the stamp of two texts.
func stampOf(t *testing.T, i, e string) stamp.Stamp {
	t.Helper()
	return stamp.Stamp{ID: parseID(t, i), Event: parseEvent(t, e)}
}

func named(t *testing.T, names ...string) card.Card {
	t.Helper()
	var l []card.Field
	for _, name := range names {
		l = append(l, card.Field{Kind: card.Name, Value: name})
	}
	c, err := card.Make(l)
	if err != api.OK {
		t.Fatal(names, err)
	}
	return c
}

// adds answers a patch that adds names.
func adds(t *testing.T, names ...string) card.Patch {
	t.Helper()
	return card.Patch{Adds: named(t, names...).Fields()}
}

// wrote answers an entry of a card; of no names that it is Gone.
func wrote(t *testing.T, contact uint32, tree string, names ...string) Entry {
	t.Helper()
	return Entry{contact, sibs.Version{Event: parseEvent(t, tree), Card: named(t, names...), Gone: len(names) == 0}}
}

// model is a book by the chapter's words: of each contact all versions that
// came since the last write of it.
type model struct {
	s    stamp.Stamp
	came map[uint32][]sibs.Version
}

func newModel(s stamp.Stamp) *model { return &model{s, map[uint32][]sibs.Version{}} }

func (m *model) copy() *model {
	c := newModel(m.s)
	for contact, l := range m.came {
		c.came[contact] = slices.Clone(l)
	}
	return c
}

// latest answers those of l that are Under no other one, each once, by their
// bytes.
func latest(l []sibs.Version) []sibs.Version {
	var kept []sibs.Version
	for _, v := range l {
		over := func(w sibs.Version) bool { return event.Leq(v.Event, w.Event) && !event.Leq(w.Event, v.Event) }
		alike := func(w sibs.Version) bool { return string(w.Bytes()) == string(v.Bytes()) }
		if !slices.ContainsFunc(l, over) && !slices.ContainsFunc(kept, alike) {
			kept = append(kept, v)
		}
	}
	slices.SortFunc(kept, func(a, b sibs.Version) int { return strings.Compare(string(a.Bytes()), string(b.Bytes())) })
	return kept
}

// live answers the cards of those that aren't Gone.
func live(l []sibs.Version) []card.Card {
	var cards []card.Card
	for _, v := range l {
		if !v.Gone {
			cards = append(cards, v.Card)
		}
	}
	return cards
}

// contacts answers those that have so many versions, or more.
func (m *model) contacts(many int) []uint32 {
	var ids []uint32
	for contact, l := range m.came {
		if len(latest(l)) >= many {
			ids = append(ids, contact)
		}
	}
	slices.Sort(ids)
	return ids
}

// entries answers all versions of which pick says yes.
func (m *model) entries(pick func(sibs.Version) bool) []Entry {
	var l []Entry
	for _, contact := range m.contacts(1) {
		for _, v := range latest(m.came[contact]) {
			if pick(v) {
				l = append(l, Entry{contact, v})
			}
		}
	}
	return l
}

func (m *model) missing(e event.Event) []Entry {
	return m.entries(func(v sibs.Version) bool { return !event.Leq(v.Event, e) })
}

func (m *model) all() []Entry { return m.entries(func(sibs.Version) bool { return true }) }

func textOf(p []byte) []byte { return append(binary.AppendUvarint(nil, uint64(len(p))), p...) }

// entryBytes answers the bytes of entries, by the chapter's words.
func entryBytes(l []Entry) []byte {
	p := binary.AppendUvarint(nil, uint64(len(l)))
	for _, x := range l {
		p = binary.AppendUvarint(p, uint64(x.ID))
		p = append(p, textOf(x.Version.Bytes())...)
	}
	return p
}

func (m *model) bytes() []byte { return append(textOf(code.Stamp(m.s)), entryBytes(m.all())...) }

// The kinds of steps.
const (
	aPut = iota
	anEdit
	aDelete
	aResolve
	aTake
	aGive
	aGain
)

// step is what is done with a book.
type step struct {
	kind    int
	contact uint32
	card    card.Card
	patch   card.Patch
	event   event.Event
	entries []Entry
	all     bool
	share   id.ID
}

// answer is what a step is answered: a version, a share, an error.
type answer struct {
	version sibs.Version
	share   id.ID
	err     api.Errno
}

// do does a step with a book.
func (s step) do(b *Book) answer {
	var a answer
	switch s.kind {
	case aPut:
		a.version, a.err = b.Put(s.contact, s.card)
	case anEdit:
		a.version, a.err = b.Edit(s.contact, s.patch)
	case aDelete:
		a.version, a.err = b.Delete(s.contact)
	case aResolve:
		a.version, a.err = b.Resolve(s.contact, s.card)
	case aTake:
		a.err = b.Take(s.event, s.entries)
	case aGive:
		a.share, a.err = b.Give(s.all)
	case aGain:
		a.err = b.Gain(s.share)
	}
	return a
}

// do does a step with the model.
func (m *model) do(s step) answer {
	there := latest(m.came[s.contact])
	switch s.kind {
	case aPut:
		return m.write(s.contact, sibs.Version{Card: s.card})
	case anEdit:
		return m.edit(s, live(there))
	case aDelete:
		if len(live(there)) == 0 {
			return answer{err: api.ErrNone}
		}
		return m.write(s.contact, sibs.Version{Gone: true})
	case aResolve:
		if len(there) < 2 {
			return answer{err: api.ErrState}
		}
		return m.write(s.contact, sibs.Version{Card: s.card})
	case aTake:
		return answer{err: m.take(s.event, s.entries)}
	case aGive:
		return m.give(s.all)
	}
	sum, err := id.Sum(m.s.ID, s.share)
	if err == api.OK {
		m.s.ID = sum
	}
	return answer{err: err}
}

func (m *model) edit(s step, cards []card.Card) answer {
	if len(cards) >= 2 {
		return answer{err: api.ErrState}
	}
	c, err := append(cards, card.Card{})[0].Patch(s.patch)
	if err != api.OK {
		return answer{err: err}
	}
	return m.write(s.contact, sibs.Version{Card: c})
}

func (m *model) write(contact uint32, v sibs.Version) answer {
	if len(m.came[contact]) == 0 && len(m.contacts(1)) == 32 {
		return answer{err: api.ErrFull}
	}
	s, err := m.s.Tick()
	if err != api.OK {
		return answer{err: err}
	}
	m.s = s
	v.Event = s.Event
	m.came[contact] = []sibs.Version{v}
	return answer{version: v}
}

func (m *model) take(e event.Event, l []Entry) api.Errno {
	then := m.copy()
	for _, x := range l {
		if x.Version.Gone && x.Version.Card.Len() > 0 || !event.Leq(x.Version.Event, e) {
			return api.ErrArg
		}
		then.came[x.ID] = append(then.came[x.ID], x.Version)
	}
	for _, came := range then.came {
		if len(latest(came)) > 8 {
			return api.ErrFull
		}
	}
	if len(then.came) > 32 {
		return api.ErrFull
	}
	then.s.Event = event.Join(m.s.Event, e)
	*m = *then
	return api.OK
}

func (m *model) give(all bool) answer {
	if m.s.ID.IsZero() {
		return answer{err: api.ErrNone}
	}
	given := m.s.ID
	if all {
		m.s.ID = id.Zero()
		return answer{share: given}
	}
	kept, given, err := given.Split()
	if err != api.OK {
		return answer{err: err}
	}
	m.s.ID = kept
	return answer{share: given}
}

// whole says whether two versions have all in common, and not their bytes
// alone.
func whole(a, b sibs.Version) bool {
	return event.Same(a.Event, b.Event) && card.Same(a.Card, b.Card) && a.Gone == b.Gone
}

func sameEntry(a, b Entry) bool { return a.ID == b.ID && whole(a.Version, b.Version) }

// must does a step with both, and asks for the same answer, and that both tell
// the same then.
func (s step) must(t *testing.T, b *Book, m *model) api.Errno {
	t.Helper()
	got, want := s.do(b), m.do(s)
	if got.err != want.err || !whole(got.version, want.version) || !id.Same(got.share, want.share) {
		t.Fatalf("%+v: %+v, wanted %+v", s, got, want)
	}
	mustTell(t, b, m)
	return got.err
}

// mustTell holds what a book tells against its model.
func mustTell(t *testing.T, b *Book, m *model) {
	t.Helper()
	if !stamp.Same(b.Stamp(), m.s) {
		t.Fatalf("%s, wanted %s", b.Stamp().Text(), m.s.Text())
	}
	if !slices.Equal(b.IDs(), m.contacts(1)) || !slices.Equal(b.Conflicts(), m.contacts(2)) {
		t.Fatalf("%v %v, wanted %v %v", b.IDs(), b.Conflicts(), m.contacts(1), m.contacts(2))
	}
	for _, contact := range append(m.contacts(1), 0, 77, 1<<32-1) {
		want := latest(m.came[contact])
		if !slices.EqualFunc(b.Set(contact).List(), want, whole) || !slices.EqualFunc(b.Query(contact), live(want), card.Same) {
			t.Fatalf("%d: %v, wanted %v", contact, b.Set(contact).List(), want)
		}
	}
	mustMiss(t, b, m, event.Event{})
	mustMiss(t, b, m, m.s.Event)
	for _, x := range m.all() {
		mustMiss(t, b, m, x.Version.Event)
	}
	if !bytes.Equal(b.Bytes(), m.bytes()) {
		t.Fatalf("%x, wanted %x", b.Bytes(), m.bytes())
	}
}

func mustMiss(t *testing.T, b *Book, m *model, e event.Event) {
	t.Helper()
	if got, want := b.Missing(e), m.missing(e); !slices.EqualFunc(got, want, sameEntry) {
		t.Fatalf("%s: %v, wanted %v", e.Text(), got, want)
	}
}

// source reads bytes by layer 6's words.
type source struct {
	rest []byte
	err  api.Errno
}

func (s *source) fail(err api.Errno) {
	if s.err == api.OK {
		s.err = err
	}
}

func (s *source) num() uint64 {
	n, size := binary.Uvarint(s.rest)
	if size <= 0 || len(binary.AppendUvarint(nil, n)) != size {
		s.fail(api.ErrForm)
	}
	if s.err != api.OK {
		return 0
	}
	s.rest = s.rest[size:]
	return n
}

func (s *source) text(most uint64) []byte {
	n := s.num()
	if n > most {
		s.fail(api.ErrLong)
	} else if n > uint64(len(s.rest)) {
		s.fail(api.ErrForm)
	}
	if s.err != api.OK {
		return nil
	}
	p := s.rest[:n]
	s.rest = s.rest[n:]
	return p
}

// entriesModel reads entries by the chapter's words.
func (s *source) entries() []Entry {
	var l []Entry
	for n := s.num(); n > 0 && s.err == api.OK; n-- {
		contact := s.num()
		if contact > 1<<32-1 {
			s.fail(api.ErrForm)
		}
		v, err := sibs.ReadVersion(s.text(8192))
		s.fail(err)
		l = append(l, Entry{uint32(contact), v})
	}
	if s.err != api.OK {
		return nil
	}
	return l
}

// readModel answers the stamp and the entries that bytes tell, by the
// chapter's words.
func readModel(p []byte) (stamp.Stamp, []Entry, api.Errno) {
	in := &source{rest: p}
	s, err := code.ReadStamp(in.text(8192))
	in.fail(err)
	l := in.entries()
	if len(in.rest) > 0 {
		in.fail(api.ErrForm)
	}
	if in.err == api.OK {
		in.err = formOf(s, l)
	}
	if in.err != api.OK {
		return stamp.Stamp{}, nil, in.err
	}
	return s, l, api.OK
}

// formOf answers the error of entries that were read well.
func formOf(s stamp.Stamp, l []Entry) api.Errno {
	many := map[uint32]int{}
	for i, x := range l {
		if !event.Leq(x.Version.Event, s.Event) || i > 0 && l[i-1].ID > x.ID {
			return api.ErrForm
		}
		if i > 0 && l[i-1].ID == x.ID && bytes.Compare(l[i-1].Version.Bytes(), x.Version.Bytes()) >= 0 {
			return api.ErrForm
		}
		for _, y := range l {
			if x.ID == y.ID && event.Leq(x.Version.Event, y.Version.Event) && !event.Leq(y.Version.Event, x.Version.Event) {
				return api.ErrForm
			}
		}
		many[x.ID]++
	}
	for _, n := range many {
		if n > 8 {
			return api.ErrFull
		}
	}
	if len(many) > 32 {
		return api.ErrFull
	}
	return api.OK
}

// mustRead holds Read of p against the model, and answers its error.
func mustRead(t *testing.T, p []byte) api.Errno {
	t.Helper()
	s, l, err := readModel(p)
	b, e := Read(p)
	if e != err || (b == nil) != (err != api.OK) {
		t.Fatalf("%.200x: %v, %d; wanted %d", p, b, e, err)
	}
	if b == nil {
		return e
	}
	m := newModel(s)
	for _, x := range l {
		m.came[x.ID] = append(m.came[x.ID], x.Version)
	}
	mustTell(t, b, m)
	if !bytes.Equal(b.Bytes(), p) {
		t.Fatalf("%x: %x", p, b.Bytes())
	}
	return e
}
