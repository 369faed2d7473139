package book

import (
	"bytes"
	"math/rand"
	"slices"
	"strconv"
	"strings"
	"testing"

	"kinfolk/api"
	"kinfolk/card"
	"kinfolk/event"
	"kinfolk/id"
	"kinfolk/sibs"
	"kinfolk/stamp"
)

// P14.2: the document's example.
func TestNamed(t *testing.T) {
	b := New(stamp.Seed())
	if v, err := b.Put(5, named(t, "Ann")); err != api.OK || v.Event.Text() != "1" || v.Card.Title() != "Ann" || v.Gone {
		t.Fatal(v, err)
	}
	if l := b.Query(5); len(l) != 1 || l[0].Title() != "Ann" {
		t.Fatal(l)
	}
	if v, err := b.Delete(5); err != api.OK || v.Event.Text() != "2" || v.Card.Len() != 0 || !v.Gone {
		t.Fatal(v, err)
	}
	if len(b.Query(5)) != 0 || !slices.Equal(b.IDs(), []uint32{5}) || len(b.Conflicts()) != 0 || b.Set(5).Len() != 1 {
		t.Fatal(b.IDs())
	}
}

// P14.1: of any stamp, without contacts.
func TestNew(t *testing.T) {
	for _, s := range []stamp.Stamp{{}, stamp.Seed(), stampOf(t, "((0,1),0)", "(1,(0,1,0),2)"), stampOf(t, "0", "7")} {
		mustTell(t, New(s), newModel(s))
	}
}

// someSteps are steps of which many come to the same contacts.
func someSteps(t *testing.T) []step {
	t.Helper()
	ann, bob := named(t, "Ann"), named(t, "Bob")
	wrong := card.Patch{Adds: []card.Field{{Kind: card.Name}}}
	bad := Entry{5, sibs.Version{Card: ann, Gone: true}}
	return []step{
		{kind: aPut, contact: 5, card: ann},
		{kind: aPut, contact: 6},
		{kind: anEdit, contact: 5, patch: adds(t, "Kim")},
		{kind: anEdit, contact: 6, patch: wrong},
		{kind: aDelete, contact: 5},
		{kind: aResolve, contact: 5, card: bob},
		{kind: aTake, event: parseEvent(t, "(0,0,1)"), entries: []Entry{wrote(t, 5, "(0,0,1)", "Bob")}},
		{kind: aTake, event: parseEvent(t, "(0,0,2)"), entries: []Entry{wrote(t, 6, "(0,0,2)"), wrote(t, 5, "(0,0,1)", "Eve"), wrote(t, 5, "0")}},
		{kind: aTake, event: parseEvent(t, "(0,0,1)"), entries: []Entry{wrote(t, 6, "(0,0,1)", "Kim"), wrote(t, 5, "(0,0,2)", "Bob")}},
		{kind: aTake, event: parseEvent(t, "9"), entries: []Entry{bad}},
		{kind: aTake, event: parseEvent(t, "(0,0,3)")},
		{kind: aGive},
		{kind: aGive, all: true},
		{kind: aGain, share: parseID(t, "((0,1),0)")},
		{kind: aGain, share: parseID(t, "(0,1)")},
	}
}

// rows does each row of so many steps with a book and its model, and goes on
// with copies, so that each row is a book of its own.
func rows(t *testing.T, b *Book, m *model, steps []step, many int) {
	t.Helper()
	if many == 0 {
		return
	}
	for _, s := range steps {
		bb, mm := b.Copy(), m.copy()
		s.must(t, bb, mm)
		rows(t, bb, mm, steps, many-1)
	}
	mustTell(t, b, m)
}

// P14.1 to P14.4: all short rows of steps.
func TestAllRows(t *testing.T) {
	steps := someSteps(t)
	for _, s := range []stamp.Stamp{stampOf(t, "(1,0)", "0"), stampOf(t, "0", "(0,1,0)"), stampOf(t, "((1,0),0)", "(0,(0,1048576,0),0)")} {
		rows(t, New(s), newModel(s), steps, 3)
	}
	// From a book that has a contact with two cards, and one with a card and none.
	s := stampOf(t, "(1,0)", "3")
	b, m := New(s), newModel(s)
	both := []Entry{wrote(t, 5, "(0,1,0)", "Ann"), wrote(t, 5, "(0,0,1)", "Bob"), wrote(t, 6, "(1,1,0)"), wrote(t, 6, "(1,0,1)", "Eve"), wrote(t, 9, "0")}
	step{kind: aTake, event: parseEvent(t, "2"), entries: both}.must(t, b, m)
	rows(t, b, m, steps, 3)
}

// aField is one of a few, of which some aren't Right.
func aField(rnd *rand.Rand) card.Field {
	f := card.Field{Kind: 1 + rnd.Intn(6), Label: "at"[:rnd.Intn(3)], Value: strconv.Itoa(rnd.Intn(9))}
	if rnd.Intn(20) == 0 {
		f.Kind = rnd.Intn(9)
	}
	return f
}

func aPatch(rnd *rand.Rand) card.Patch {
	var p card.Patch
	for range rnd.Intn(5) {
		p.Adds = append(p.Adds, aField(rnd))
		p.Drops = append(p.Drops, aField(rnd))
		p.Clear = append(p.Clear, rnd.Intn(8))
	}
	return p
}

func aCard(t *testing.T, rnd *rand.Rand) card.Card {
	return named(t, []string{"Ann", "Bob", "Eve", "Kim"}[:rnd.Intn(5)]...)
}

// someStep is one at random, of a few books that know of one another.
func someStep(t *testing.T, rnd *rand.Rand, contacts int, books []*Book) step {
	t.Helper()
	s := step{kind: []int{aPut, aPut, aPut, anEdit, anEdit, aDelete, aResolve, aTake, aTake, aTake, aTake}[rnd.Intn(11)], contact: uint32(rnd.Intn(contacts))}
	s.card, s.patch = aCard(t, rnd), aPatch(rnd)
	other := books[rnd.Intn(len(books))]
	s.event = other.Stamp().Event
	switch rnd.Intn(6) {
	case 0:
		s.entries = other.Missing(event.Event{})
	case 1: // of a tree that some of them may be above
		s.event = books[rnd.Intn(len(books))].Stamp().Event
		s.entries = other.Missing(event.Event{})
	case 2: // some of them alone, in any order, and some twice
		l := other.Missing(event.Event{})
		rnd.Shuffle(len(l), func(i, j int) { l[i], l[j] = l[j], l[i] })
		l = l[:rnd.Intn(len(l)+1)]
		s.entries = append(l, l[:rnd.Intn(len(l)+1)]...)
	default:
		s.entries = other.Missing(books[rnd.Intn(len(books))].Stamp().Event)
	}
	return s
}

// P14.1 to P14.4: long rows at random, of books that take what others had,
// whether they haven't seen it or have.
func TestLongRows(t *testing.T) {
	seen := map[api.Errno]int{}
	for round := range 40 {
		rnd := rand.New(rand.NewSource(int64(round)))
		var books []*Book
		var models []*model
		for _, i := range []string{"((1,0),0)", "((0,1),0)", "(0,(1,0))", "(0,(0,1))", "0"} {
			s := stampOf(t, i, "0")
			books, models = append(books, New(s)), append(models, newModel(s))
		}
		contacts := []int{2, 5, 60}[round%3]
		for range 150 {
			at := rnd.Intn(len(books))
			s := someStep(t, rnd, contacts, books)
			seen[s.must(t, books[at], models[at])]++
			if rnd.Intn(10) > 0 {
				continue
			}
			// A share goes from one to another, or comes where it is already.
			to := rnd.Intn(len(books))
			was := books[at].Stamp().ID
			s = step{kind: aGive, all: rnd.Intn(4) == 0}
			share := s.do(books[at].Copy()).share
			if rnd.Intn(3) > 0 {
				s.must(t, books[at], models[at])
			} else {
				share = was
			}
			seen[step{kind: aGain, share: share}.must(t, books[to], models[to])]++
		}
	}
	for _, err := range []api.Errno{api.OK, api.ErrArg, api.ErrNone, api.ErrOverlap, api.ErrText, api.ErrFull, api.ErrState} {
		if seen[err] < 5 {
			t.Error("never", err, seen)
		}
	}
}

// owner is a book, and which writes its owner has seen, by the contacts.
type owner struct {
	book *Book
	seen map[*write]bool
}

// write is one that was done, and what its writer had seen then.
type write struct {
	contact uint32
	version sibs.Version
	seen    map[*write]bool
}

// mustKnow asks an owner's cards of some contacts, by what he has seen.
func (o owner) mustKnow(t *testing.T, contacts int) {
	t.Helper()
	for contact := range uint32(contacts) {
		var s sibs.Set
		for w := range o.seen {
			over := false
			for x := range o.seen {
				over = over || x.contact == contact && x != w && x.seen[w]
			}
			if w.contact == contact && !over {
				s = s.Add(w.version)
			}
		}
		if !slices.EqualFunc(o.book.Query(contact), s.Live(), card.Same) || !sibs.Alike(o.book.Set(contact), s) {
			t.Fatal(contact, o.book.Query(contact), s.Live())
		}
	}
}

// someWrite does a write at random.
func (o owner) someWrite(t *testing.T, rnd *rand.Rand, contacts int) {
	t.Helper()
	w := &write{contact: uint32(rnd.Intn(contacts)), seen: map[*write]bool{}}
	err := api.OK
	switch rnd.Intn(4) {
	case 0:
		w.version, err = o.book.Put(w.contact, aCard(t, rnd))
	case 1:
		w.version, err = o.book.Edit(w.contact, adds(t, "Ann", "Eve"))
	case 2:
		w.version, err = o.book.Delete(w.contact)
	default:
		w.version, err = o.book.Resolve(w.contact, aCard(t, rnd))
	}
	if err != api.OK {
		return
	}
	for x := range o.seen {
		w.seen[x] = true
	}
	w.seen[w], o.seen[w] = true, true
}

// hears takes what another one had, if it can.
func (o owner) hears(from owner) {
	if o.book.Take(from.book.Stamp().Event, from.book.Missing(o.book.Stamp().Event)) != api.OK {
		return
	}
	for w := range from.seen {
		o.seen[w] = true
	}
}

// givesTo gives a share to one who has heard all.
func (o owner) givesTo(t *testing.T, to owner, all bool) {
	t.Helper()
	share, err := o.book.Give(all)
	if err == api.OK {
		err = to.book.Gain(share)
	}
	if err != api.OK && err != api.ErrNone && err != api.ErrDeep {
		t.Fatal(share.Text(), err)
	}
}

func allIn(a, b map[*write]bool) bool {
	for w := range a {
		if !b[w] {
			return false
		}
	}
	return true
}

// P14.2 to P14.4: who takes what he misses has seen all that the other one
// had; the cards are those that no later write has replaced; and stamps tell
// just who has seen what, however shares are given.
func TestSeen(t *testing.T) {
	const contacts = 3
	for round := range 60 {
		rnd := rand.New(rand.NewSource(int64(1000 + round)))
		owners := []owner{{New(stamp.Seed()), map[*write]bool{}}}
		for range 4 {
			owners = append(owners, owner{New(stamp.Stamp{}), map[*write]bool{}})
		}
		for range 80 {
			a, b := owners[rnd.Intn(len(owners))], owners[rnd.Intn(len(owners))]
			switch rnd.Intn(5) {
			case 0, 1:
				a.someWrite(t, rnd, contacts)
			case 2, 3:
				a.hears(b)
			default:
				// Who gains a share has heard what its giver had.
				b.hears(a)
				if a.book != b.book && allIn(a.seen, b.seen) {
					a.givesTo(t, b, rnd.Intn(5) == 0)
				}
			}
			for _, x := range owners {
				x.mustKnow(t, contacts)
				for _, y := range owners {
					if stamp.Leq(x.book.Stamp(), y.book.Stamp()) != allIn(x.seen, y.seen) {
						t.Fatal(x.book.Stamp().Text(), y.book.Stamp().Text())
					}
				}
			}
		}
	}
}

// P14.2: of several errors the one that is named first.
func TestWriteErrors(t *testing.T) {
	wrong := card.Patch{Adds: []card.Field{{Kind: 7, Value: "x"}}}
	names := strings.Split("a b c d e f g h", " ")
	full := func(share, tree string) *Book {
		b := New(stampOf(t, share, tree))
		l := []Entry{wrote(t, 0, "(0,1,0)"), wrote(t, 0, "(0,0,1)", "Ann"), wrote(t, 1, "(0,1,0)", "Bob"), wrote(t, 1, "(0,0,1)", "Ann"), wrote(t, 2, "1"), wrote(t, 3, "(0,1,0)"), wrote(t, 3, "(0,0,1)"), wrote(t, 4, "1", names...)}
		for contact := range uint32(api.MaxContacts - 5) {
			l = append(l, wrote(t, 5+contact, "1", "Ann"))
		}
		if err := b.Take(parseEvent(t, "1"), l); err != api.OK || len(b.IDs()) != api.MaxContacts {
			t.Fatal(err)
		}
		return b
	}
	for _, x := range []struct {
		s           step
		none, whole api.Errno // of a book without a share; of one with it
	}{
		{step{kind: aPut, contact: 0}, api.ErrNone, api.OK},
		{step{kind: aPut, contact: 99}, api.ErrFull, api.ErrFull},
		{step{kind: anEdit, contact: 0}, api.ErrNone, api.OK}, // two versions, of which one is Live
		{step{kind: anEdit, contact: 1}, api.ErrState, api.ErrState},
		{step{kind: anEdit, contact: 1, patch: wrong}, api.ErrState, api.ErrState},
		{step{kind: anEdit, contact: 2, patch: wrong}, api.ErrArg, api.ErrArg},
		{step{kind: anEdit, contact: 2}, api.ErrNone, api.OK},
		{step{kind: anEdit, contact: 4, patch: adds(t, "i")}, api.ErrFull, api.ErrFull},
		{step{kind: anEdit, contact: 4, patch: adds(t, "a")}, api.ErrNone, api.OK},
		{step{kind: anEdit, contact: 99, patch: wrong}, api.ErrArg, api.ErrArg},
		{step{kind: anEdit, contact: 99, patch: adds(t, "a")}, api.ErrFull, api.ErrFull},
		{step{kind: aDelete, contact: 0}, api.ErrNone, api.OK},
		{step{kind: aDelete, contact: 1}, api.ErrNone, api.OK},
		{step{kind: aDelete, contact: 2}, api.ErrNone, api.ErrNone},
		{step{kind: aDelete, contact: 3}, api.ErrNone, api.ErrNone},
		{step{kind: aDelete, contact: 99}, api.ErrNone, api.ErrNone},
		{step{kind: aResolve, contact: 0}, api.ErrNone, api.OK},
		{step{kind: aResolve, contact: 1}, api.ErrNone, api.OK},
		{step{kind: aResolve, contact: 2}, api.ErrState, api.ErrState},
		{step{kind: aResolve, contact: 3}, api.ErrNone, api.OK},
		{step{kind: aResolve, contact: 4}, api.ErrState, api.ErrState},
		{step{kind: aResolve, contact: 99}, api.ErrState, api.ErrState},
	} {
		for share, want := range map[string]api.Errno{"0": x.none, "(0,1)": x.whole} {
			b := full(share, "1")
			was := b.Bytes()
			got := x.s.do(b)
			if got.err != want || want != api.OK && (!whole(got.version, sibs.Version{}) || !bytes.Equal(b.Bytes(), was)) {
				t.Errorf("%s: %+v: %+v, wanted %d", share, x.s, got, want)
			}
		}
		// As high as can be: Tick's error is another one.
		b := full("1", strconv.Itoa(api.MaxCount))
		want := x.whole
		if want == api.OK {
			want = api.ErrCount
		}
		if got := x.s.do(b); got.err != want || !whole(got.version, sibs.Version{}) {
			t.Errorf("%+v: %+v, wanted %d", x.s, got, want)
		}
	}
}

// P14.2: as many contacts as there may be are written one by one.
func TestWriteLimits(t *testing.T) {
	b, m := New(stamp.Seed()), newModel(stamp.Seed())
	for n := range uint32(2 * api.MaxContacts) {
		want := api.OK
		if n >= api.MaxContacts {
			want = api.ErrFull
		}
		kind := []int{aPut, anEdit}[n%2]
		if err := (step{kind: kind, contact: 1<<32 - 1 - n, card: named(t, "Ann")}).must(t, b, m); err != want {
			t.Fatal(n, err)
		}
	}
	// One of which there is none any more is a contact still.
	for n, want := range map[uint32]api.Errno{1<<32 - 1: api.OK, 0: api.ErrNone} {
		if err := (step{kind: aDelete, contact: n}).must(t, b, m); err != want {
			t.Fatal(n, err)
		}
	}
	for n, want := range map[uint32]api.Errno{1<<32 - 1: api.OK, 0: api.ErrFull} {
		if err := (step{kind: aPut, contact: n}).must(t, b, m); err != want {
			t.Fatal(n, err)
		}
	}
}

// P14.2: a write has seen all that stood there, and stands alone.
func TestWriteAlone(t *testing.T) {
	for kind, want := range map[int]string{aPut: "Kim", anEdit: "Eve", aDelete: "", aResolve: "Kim"} {
		s := stampOf(t, "(0,1)", "(0,1,0)")
		b, m := New(s), newModel(s)
		l := []Entry{wrote(t, 5, "(0,1,0)", "Eve"), wrote(t, 5, "(0,0,4)")}
		step{kind: aTake, event: parseEvent(t, "(1,0,3)"), entries: l}.must(t, b, m)
		step{kind: kind, contact: 5, card: named(t, "Kim")}.must(t, b, m)
		set := b.Set(5).List()
		if len(set) != 1 || set[0].Event.Text() != "(1,0,4)" || !event.Same(set[0].Event, b.Stamp().Event) || set[0].Gone != (kind == aDelete) || set[0].Card.Title() != want {
			t.Error(kind, set)
		}
	}
}

// P14.2: of no card that is Live an empty one is edited.
func TestEditOfNone(t *testing.T) {
	b := New(stamp.Seed())
	for range 2 {
		if v, err := b.Edit(0, card.Patch{Clear: []int{1}}); err != api.OK || v.Card.Len() != 0 || v.Gone {
			t.Fatal(v, err)
		}
		if v, err := b.Edit(0, adds(t, "Ann")); err != api.OK || v.Card.Title() != "Ann" {
			t.Fatal(v, err)
		}
		if _, err := b.Delete(0); err != api.OK {
			t.Fatal(err)
		}
	}
}

// P14.3: what a book may have is asked of what it would have at last.
func TestTakeLimits(t *testing.T) {
	s := stampOf(t, "(1,0)", "0")
	one := func(contact uint32, name string) Entry { return wrote(t, contact, "(0,0,1)", name) }
	e := parseEvent(t, "3")
	var eight, many []Entry
	for n := range api.MaxVersions {
		eight = append(eight, one(5, "v"+strconv.Itoa(n)))
	}
	for contact := range uint32(api.MaxContacts) {
		many = append(many, one(contact*1000, "Ann"))
	}
	above := []Entry{wrote(t, 5, "(0,0,2)"), wrote(t, 5, "2", "Ann")}
	notRight := Entry{5, sibs.Version{Card: named(t, "Ann"), Gone: true}}
	for _, x := range []struct {
		rows [][]Entry
		err  api.Errno // of the last one
	}{
		{[][]Entry{eight}, api.OK},
		{[][]Entry{append(slices.Clone(eight), one(5, "w"))}, api.ErrFull},
		{[][]Entry{eight, {one(5, "w")}}, api.ErrFull},
		{[][]Entry{eight, eight}, api.OK},
		{[][]Entry{eight, {wrote(t, 5, "(0,0,1)")}}, api.ErrFull},
		// Of more than eight that are side by side at first, few are left.
		{[][]Entry{slices.Concat(eight, []Entry{one(5, "w")}, above)}, api.OK},
		{[][]Entry{eight, slices.Concat([]Entry{one(5, "w")}, above)}, api.OK},
		{[][]Entry{eight, slices.Concat([]Entry{one(5, "w")}, above[:1])}, api.OK},
		{[][]Entry{above, eight, {one(5, "w")}}, api.OK},
		{[][]Entry{many}, api.OK},
		{[][]Entry{many, {one(31000, "Bob"), one(0, "Bob")}}, api.OK},
		{[][]Entry{many, {one(1, "Bob")}}, api.ErrFull},
		{[][]Entry{many, {wrote(t, 1, "0")}}, api.ErrFull},
		{[][]Entry{append(slices.Clone(many), one(1<<32-1, "Ann"))}, api.ErrFull},
		{[][]Entry{many[1:], {one(1<<32-1, "Ann")}}, api.OK},
		// That one isn't Right, or too great, is told first.
		{[][]Entry{many, {one(1, "Bob"), notRight}}, api.ErrArg},
		{[][]Entry{many, {one(1, "Bob"), wrote(t, 0, "(0,0,4)", "Bob")}}, api.ErrArg},
		{[][]Entry{many, {wrote(t, 0, "(3,0,1)", "Bob"), one(1, "Bob")}}, api.ErrArg},
	} {
		b, m := New(s), newModel(s)
		last := api.OK
		for _, l := range x.rows {
			last = step{kind: aTake, event: e, entries: l}.must(t, b, m)
		}
		if last != x.err {
			t.Errorf("%v: %d, wanted %d", x.rows, last, x.err)
		}
	}
}

// P14.3: a tree is asked to be at most the other one's, not the book's.
func TestTakeOfTrees(t *testing.T) {
	for _, x := range []struct {
		e, v, then string
		err        api.Errno
	}{
		{"(0,0,2)", "(0,0,2)", "(2,5,0)", api.OK},
		{"(0,0,2)", "(0,0,1)", "(2,5,0)", api.OK},
		{"(0,0,2)", "0", "(2,5,0)", api.OK},
		{"0", "0", "(1,6,0)", api.OK},
		{"0", "(0,1,0)", "(1,6,0)", api.ErrArg},
		{"(0,0,2)", "(0,1,0)", "(1,6,0)", api.ErrArg},
		{"(0,8,0)", "(0,7,0)", "(1,7,0)", api.OK},
	} {
		s := stampOf(t, "(1,0)", "(1,6,0)")
		b, m := New(s), newModel(s)
		err := step{kind: aTake, event: parseEvent(t, x.e), entries: []Entry{wrote(t, 5, x.v, "Ann")}}.must(t, b, m)
		if err != x.err || err != api.OK && len(b.IDs()) > 0 {
			t.Error(x, err, b.Stamp().Text())
		}
		if want := event.Join(s.Event, parseEvent(t, x.e)); err == api.OK && !event.Same(b.Stamp().Event, want) {
			t.Error(x, b.Stamp().Text())
		}
	}
}

// P14.4: shares, at their edges.
func TestGiveAndGain(t *testing.T) {
	deep := strings.Repeat("(0,", api.MaxDepth) + "1" + strings.Repeat(")", api.MaxDepth)
	for _, x := range []struct {
		share       string
		all         bool
		given, kept string
		err         api.Errno
	}{
		{"1", false, "(0,1)", "(1,0)", api.OK},
		{"1", true, "1", "0", api.OK},
		{"((0,1),0)", false, "((0,(0,1)),0)", "((0,(1,0)),0)", api.OK},
		{"(1,(0,1))", false, "(0,(0,1))", "(1,0)", api.OK},
		{"(1,(0,1))", true, "(1,(0,1))", "0", api.OK},
		{"0", false, "0", "0", api.ErrNone},
		{"0", true, "0", "0", api.ErrNone},
		{deep, false, "0", deep, api.ErrDeep},
		{deep, true, deep, "0", api.OK},
	} {
		b := New(stampOf(t, x.share, "(3,0,1)"))
		b.Put(5, named(t, "Ann"))
		before := b.Copy()
		given, err := b.Give(x.all)
		if err != x.err || given.Text() != x.given || b.Stamp().ID.Text() != x.kept {
			t.Errorf("%+v: %s, %s, %d", x, given.Text(), b.Stamp().ID.Text(), err)
		}
		if !event.Same(b.Stamp().Event, before.Stamp().Event) || !slices.EqualFunc(b.Missing(event.Event{}), before.Missing(event.Event{}), sameEntry) {
			t.Error(x)
		}
		if err := b.Gain(given); err != api.OK || !bytes.Equal(b.Bytes(), before.Bytes()) {
			t.Error(x, err)
		}
	}
	b := New(stampOf(t, "(1,(0,1))", "0"))
	was := b.Bytes()
	for _, s := range []string{"1", "(1,0)", "(0,1)", "((1,0),0)", "(0,(0,(1,0)))"} {
		if err := b.Gain(parseID(t, s)); err != api.ErrOverlap || !bytes.Equal(b.Bytes(), was) {
			t.Error(s, err)
		}
	}
}

// P14.4: what is done with one changes no other.
func TestCopy(t *testing.T) {
	rnd := rand.New(rand.NewSource(144))
	s := stampOf(t, "1", "0")
	books, models := []*Book{New(s)}, []*model{newModel(s)}
	for range 300 {
		at := rnd.Intn(len(books))
		b, m := books[at].Copy(), models[at].copy()
		mustTell(t, b, m)
		someStep(t, rnd, 6, books).must(t, b, m)
		books, models = append(books, b), append(models, m)
	}
	for at, b := range books {
		mustTell(t, b, models[at])
	}
}

// P14: of a nil book ErrNone, nothing, zero values, nil.
func TestNil(t *testing.T) {
	var b *Book
	wrong := card.Patch{Adds: []card.Field{{}}}
	for _, s := range append(someSteps(t), step{kind: anEdit, patch: wrong}, step{kind: aTake, entries: []Entry{wrote(t, 1, "1")}}, step{kind: aGive, all: true}, step{kind: aGain, share: id.One()}) {
		if got := s.do(b); got.err != api.ErrNone || !whole(got.version, sibs.Version{}) || !got.share.IsZero() {
			t.Errorf("%+v: %+v", s, got)
		}
	}
	if b.Stamp() != (stamp.Stamp{}) || b.Query(0) != nil || b.Set(0).Len() != 0 || b.IDs() != nil || b.Conflicts() != nil || b.Missing(event.Event{}) != nil || b.Copy() != nil || b.Bytes() != nil {
		t.Error("nil")
	}
}

// scrub writes over all of a list, and its spare room.
func scrub[T any](l []T, by T) {
	l = l[:cap(l)]
	for i := range l {
		l[i] = by
	}
}

// What is handed in isn't changed and isn't kept; answers are new memory.
func TestMemory(t *testing.T) {
	s := stampOf(t, "(1,0)", "0")
	b, m := New(s), newModel(s)
	other := wrote(t, 99, "(0,0,1)", "scrubbed")
	spare := make([]Entry, 0, 9)
	spare = append(spare, wrote(t, 5, "(0,0,1)", "Ann"), wrote(t, 5, "(0,0,1)", "Bob"), wrote(t, 2, "(0,0,1)"))
	before := slices.Clone(spare[:cap(spare)])
	e := parseEvent(t, "(0,0,1)")
	if err, want := b.Take(e, spare), m.take(e, spare); err != want || err != api.OK {
		t.Fatal(err)
	}
	if !slices.EqualFunc(spare[:cap(spare)], before, sameEntry) {
		t.Fatal("changed")
	}
	scrub(spare, other)
	mustTell(t, b, m)
	p := adds(t, "Kim", "Eve")
	step{kind: anEdit, contact: 2, patch: p}.must(t, b, m)
	scrub(p.Adds, card.Field{Kind: card.Note, Value: "scrubbed"})
	mustTell(t, b, m)
	for range 2 {
		scrub(b.IDs(), 77)
		scrub(b.Conflicts(), 77)
		scrub(b.Missing(event.Event{}), other)
		scrub(b.Query(5), other.Version.Card)
		scrub(b.Set(5).List(), other.Version)
		scrub(b.Bytes(), 0x77)
		mustTell(t, b, m)
	}
}
