package node

import (
	"bytes"
	"math/rand"
	"slices"
	"strings"
	"testing"

	"kinfolk/api"
	"kinfolk/book"
	"kinfolk/card"
	"kinfolk/deed"
	"kinfolk/disk"
	"kinfolk/event"
	"kinfolk/id"
	"kinfolk/log"
	"kinfolk/sibs"
)

// P16.3, P16.4: the document's example.
func TestNamed(t *testing.T) {
	for torn := range 40 {
		d := disk.New(9000)
		n, m := mustFormat(t, d, 1000, 0, -1, true)
		mustDo(t, n, m, 1000, Op{Kind: Put, Contact: 5, Card: named(t, "Ann")})
		second := Op{Kind: Put, Contact: 6, Card: named(t, "Bob")}
		d.Arm(1, torn)
		if g, err := n.Do(second); err != api.ErrDown || !sameGift(g, deed.Gift{}) {
			t.Fatal(g, err)
		}
		d.On()
		record, _ := bytesOf(second)
		isTorn := torn > 0 && torn < 8+1+len(record)
		if torn >= 8+1+len(record) {
			m.do(second)
		}
		n, err := Open(d, 1000)
		if err != api.OK {
			t.Fatal(err)
		}
		mustTell(t, n, m)
		if n.Log().Torn() || isTorn != (n.Log().Count() == 0) || isTorn != (n.Log().Seg() == 2) {
			t.Fatal(torn, n.Log().Count())
		}
		mustDo(t, n, m, 1000, second)
		mustOpen(t, d, 1000, m)
	}
}

// someOps are operations of which many come to the same contacts and nodes,
// and of which some are never done. They are for the node 3.
func someOps(t *testing.T) []Op {
	t.Helper()
	ann := named(t, "Ann")
	kim := card.Patch{Adds: named(t, "Kim").Fields()}
	gift := deed.Gift{No: 1, From: 0, To: 3, Share: parseID(t, "(0,(0,1))")}
	twice, other, strange := gift, gift, gift
	twice.No, other.To, strange.From = 2, 4, 3
	there := parseEvent(t, "(0,0,1)")
	news := []book.Entry{wrote(t, 5, "(0,0,1)", "Bob")}
	high := []book.Entry{wrote(t, 5, "(0,0,2)", "Bob")}
	return []Op{
		{Kind: Put, Contact: 5, Card: ann}, {Kind: Put, Contact: 1<<32 - 1},
		{Kind: Edit, Contact: 5, Patch: kim}, {Kind: Edit, Contact: 5, Patch: card.Patch{Clear: []int{1, 0, 255}, Drops: []card.Field{{Kind: 9, Label: "x"}}}},
		{Kind: Edit, Contact: 5, Patch: card.Patch{Adds: []card.Field{{Kind: 7, Value: "a"}}}},
		{Kind: Edit, Contact: 5, Patch: card.Patch{Clear: []int{-1}}}, {Kind: Edit, Contact: 5, Patch: card.Patch{Clear: []int{256}, Drops: []card.Field{{Label: strings.Repeat("a", 256)}}}},
		{Kind: Delete, Contact: 5}, {Kind: Delete, Contact: 7}, {Kind: Resolve, Contact: 5, Card: named(t, "Eve", "Kim")},
		{Kind: Take, Event: there, Entries: news}, {Kind: Take, Event: there, Entries: high}, {Kind: Take, Event: parseEvent(t, "(0,0,3)")},
		{Kind: Give, To: 0}, {Kind: Give, To: 5}, {Kind: Give, To: 3}, {Kind: Give, To: 12}, {Kind: Give, To: -1},
		{Kind: Leave}, {Kind: Done, No: 1}, {Kind: Done, No: 2},
		{Kind: Accept, Gift: gift, Event: there, Entries: news}, {Kind: Accept, Gift: twice, Event: there, Entries: high}, {Kind: Accept, Gift: twice, Event: there},
		{Kind: Accept, Gift: other}, {Kind: Accept, Gift: strange}, {Kind: Accept},
		{Kind: Parent, To: -1}, {Kind: Parent, To: 0}, {Kind: Parent, To: 11}, {Kind: Parent, To: 3}, {Kind: Parent, To: 12}, {Kind: Parent, To: -2},
		{Kind: Boot}, {}, {Kind: 12}, {Kind: -1}, {Kind: 257, Contact: 5, Card: ann}, {Kind: 256 + Boot},
	}
}

// rows does each row of so many operations; each goes on, with the disk's copy
// and a node that is opened there, from where the one ahead came to.
func rows(t *testing.T, d *disk.Disk, m *model, ops []Op, many int, seen map[api.Errno]int) {
	t.Helper()
	for _, o := range ops {
		dd, mm := d.Copy(), m.copy()
		n := mustOpen(t, dd, 120, mm)
		_, err := mustDo(t, n, mm, 120, o)
		seen[err]++
		// Behind an error all is as it was.
		if err == api.OK && many > 1 {
			rows(t, dd, mm, ops, many-1, seen)
		}
	}
}

// P16.1 to P16.3: all short rows of operations.
func TestAllRows(t *testing.T) {
	ops := someOps(t)
	seen := map[api.Errno]int{}
	for _, ahead := range [][]Op{
		nil,
		{{Kind: Give, To: 5}, {Kind: Put, Contact: 5}, {Kind: Take, Event: parseEvent(t, "(0,0,1)"), Entries: []book.Entry{wrote(t, 5, "(0,0,1)", "Bob")}}},
		{{Kind: Give, To: 0}, {Kind: Put, Contact: 5}},
	} {
		for _, seed := range []bool{true, false} {
			d := disk.New(2000)
			n, m := mustFormat(t, d, 120, 3, 0, seed)
			for _, o := range ahead {
				mustDo(t, n, m, 120, o)
			}
			rows(t, d, m, ops, 3, seen)
		}
	}
	for _, err := range []api.Errno{api.OK, api.ErrArg, api.ErrNone, api.ErrOverlap, api.ErrLong, api.ErrState, api.ErrExists} {
		if seen[err] < 50 {
			t.Error("seldom", err, seen)
		}
	}
}

// P16.2: what each kind answers, and where it comes to.
func TestKinds(t *testing.T) {
	n, m := mustFormat(t, disk.New(9000), 5000, 3, 0, true)
	do := func(o Op, want api.Errno) deed.Gift {
		t.Helper()
		g, err := mustDo(t, n, m, 5000, o)
		if err != want {
			t.Fatal(o, err)
		}
		return g
	}
	if g := do(Op{Kind: Give, To: 5}, api.OK); !sameGift(g, deed.Gift{No: 1, From: 3, To: 5, Share: parseID(t, "(0,1)")}) {
		t.Fatal(g)
	}
	if g := do(Op{Kind: Put, Contact: 7, Card: named(t, "Ann")}, api.OK); !sameGift(g, deed.Gift{}) {
		t.Fatal(g)
	}
	if l := n.Book().Query(7); len(l) != 1 || l[0].Title() != "Ann" || n.Book().Stamp().Text() != "((1,0);(0,1,0))" {
		t.Fatal(l)
	}
	do(Op{Kind: Take, Event: parseEvent(t, "(0,0,1)"), Entries: []book.Entry{wrote(t, 7, "(0,0,1)")}}, api.OK)
	do(Op{Kind: Edit, Contact: 7, Patch: card.Patch{Adds: named(t, "Kim").Fields()}}, api.OK)
	if l := n.Book().Query(7); len(l) != 1 || l[0].Len() != 2 {
		t.Fatal(l)
	}
	do(Op{Kind: Resolve, Contact: 7}, api.ErrState)
	do(Op{Kind: Delete, Contact: 7}, api.OK)
	if g := do(Op{Kind: Leave}, api.OK); !sameGift(g, deed.Gift{No: 2, From: 3, To: 0, Share: parseID(t, "(1,0)")}) || !n.Leaving() {
		t.Fatal(g)
	}
	do(Op{Kind: Put, Contact: 8}, api.ErrNone)
	do(Op{Kind: Give, To: 6}, api.ErrNone)
	do(Op{Kind: Leave}, api.ErrState)
	do(Op{Kind: Parent, To: 1}, api.ErrState)
	do(Op{Kind: Parent, To: 3}, api.ErrArg)
	do(Op{Kind: Done, No: 2}, api.OK)
	do(Op{Kind: Boot}, api.OK)
	if g, there := n.Deeds().To(5); !there || g.No != 1 || len(n.Deeds().Pending()) != 1 || n.Boots() != 1 || n.Parent() != 0 || n.Log().Count() != 8 {
		t.Fatal(n.Log().Count())
	}
}

// P16.2: the first error of several, though what is ahead of it could be done.
func TestFirstError(t *testing.T) {
	share := parseID(t, "(0,1)")
	all := parseEvent(t, "9")
	var many, side []book.Entry
	for k := range uint32(api.MaxContacts + 1) {
		many = append(many, wrote(t, k, "9", "Ann"))
	}
	for _, name := range strings.Split("a b c d e f g h i", " ") {
		side = append(side, wrote(t, 5, "9", name))
	}
	for _, x := range []struct {
		seed   bool
		parent int
		ahead  []Op
		o      Op
		want   api.Errno
	}{
		{true, -1, nil, Op{Kind: Leave}, api.ErrState},
		{false, -1, nil, Op{Kind: Leave}, api.ErrState},
		{false, 0, nil, Op{Kind: Leave}, api.ErrNone},
		{true, 0, []Op{{Kind: Give}}, Op{Kind: Leave}, api.ErrExists},
		{true, 0, []Op{{Kind: Leave}, {Kind: Accept, Gift: deed.Gift{No: 9, To: 3, Share: share}}}, Op{Kind: Leave}, api.ErrState},
		{true, 0, []Op{{Kind: Leave}, {Kind: Accept, Gift: deed.Gift{No: 9, To: 3, Share: share}}}, Op{Kind: Give, To: 5}, api.OK},
		{false, 0, nil, Op{Kind: Give, To: 3}, api.ErrNone},
		{true, 0, nil, Op{Kind: Give, To: 3}, api.ErrArg},
		{true, 0, []Op{{Kind: Give, To: 5}}, Op{Kind: Give, To: 5}, api.ErrExists},
		{false, 0, []Op{{Kind: Accept, Gift: deed.Gift{No: 9, To: 3, Share: parseID(t, deep())}}}, Op{Kind: Give, To: 3}, api.ErrDeep},
		{true, 0, nil, Op{Kind: Accept, Gift: deed.Gift{No: 1, To: 4, Share: share}, Entries: many}, api.ErrArg},
		{true, 0, nil, Op{Kind: Accept, Gift: deed.Gift{No: 1, To: 3, Share: share}, Entries: many}, api.ErrArg},
		{true, 0, nil, Op{Kind: Accept, Gift: deed.Gift{No: 1, To: 3, Share: share}, Event: all, Entries: many}, api.ErrFull},
		{true, 0, nil, Op{Kind: Accept, Gift: deed.Gift{No: 1, To: 3, Share: share}, Event: all, Entries: side}, api.ErrFull},
		{true, 0, nil, Op{Kind: Accept, Gift: deed.Gift{No: 1, To: 3, Share: share}, Event: all}, api.ErrOverlap},
		{false, 0, []Op{{Kind: Accept, Gift: deed.Gift{No: 1, To: 3, Share: share}}}, Op{Kind: Accept, Gift: deed.Gift{No: 1, To: 3, Share: share}, Entries: many}, api.ErrExists},
		{false, 0, []Op{{Kind: Accept, Gift: deed.Gift{No: 1, To: 3, Share: share}}}, Op{Kind: Accept, Gift: deed.Gift{No: 2, To: 3, Share: share}}, api.ErrOverlap},
		{true, 0, []Op{{Kind: Leave}}, Op{Kind: Parent, To: 12}, api.ErrArg},
		{true, 0, []Op{{Kind: Leave}}, Op{Kind: Parent, To: -1}, api.ErrState},
		{true, 0, []Op{{Kind: Leave}}, Op{Kind: 99}, api.ErrArg},
	} {
		n, m := mustFormat(t, disk.New(1<<20), 5000, 3, x.parent, x.seed)
		for _, o := range x.ahead {
			if _, err := mustDo(t, n, m, 5000, o); err != api.OK {
				t.Fatal(o, err)
			}
		}
		if _, err := mustDo(t, n, m, 5000, x.o); err != x.want {
			t.Errorf("%+v: %d, wanted %d", x.o, err, x.want)
		}
		mustOpen(t, n.Log().Disk(), 5000, m)
	}
}

// deep is an id that can't be split.
func deep() string {
	return strings.Repeat("(0,", api.MaxDepth) + "1" + strings.Repeat(")", api.MaxDepth)
}

// P16.3: what it would do is asked ahead of its bytes, these ahead of the disk.
func TestErrorsInOrder(t *testing.T) {
	long := card.Patch{Drops: []card.Field{{Kind: -1, Label: strings.Repeat("a", 256)}}}
	strange := card.Patch{Drops: []card.Field{{Kind: 256}}}
	wrong := card.Patch{Adds: []card.Field{{Kind: 256}}}
	untold := card.Patch{Adds: []card.Field{{Kind: card.Name, Label: strings.Repeat("a", 256), Value: "a"}}, Clear: []int{-1}}
	for _, full := range []bool{false, true} {
		for _, down := range []bool{false, true} {
			last := api.OK
			if full {
				last = api.ErrFull
			}
			if down {
				last = api.ErrDown
			}
			for _, x := range []struct {
				o    Op
				want api.Errno
			}{
				{Op{Kind: Put, Contact: 1}, last},
				{Op{Kind: Delete, Contact: 5}, api.ErrNone},
				{Op{Kind: 0}, api.ErrArg},
				{Op{Kind: Edit, Contact: 5, Patch: long}, api.ErrLong},
				{Op{Kind: Edit, Contact: 5, Patch: strange}, api.ErrArg},
				{Op{Kind: Edit, Contact: 5, Patch: wrong}, api.ErrArg},
				{Op{Kind: Edit, Contact: 5, Patch: untold}, api.ErrLong},
				{Op{Kind: Edit, Contact: 6, Patch: long}, api.ErrState},
				{Op{Kind: Leave}, last},
				{Op{Kind: Give, To: 2}, last},
				{Op{Kind: Boot}, last},
			} {
				d := disk.New(9000)
				n, m := mustFormat(t, d, 5000, 3, 0, true)
				mustDo(t, n, m, 5000, Op{Kind: Take, Event: parseEvent(t, "1"), Entries: []book.Entry{wrote(t, 6, "1", "a"), wrote(t, 6, "1", "b")}})
				d.Full(full)
				before := d.Copy()
				if down {
					d.Off()
				}
				g, err := n.Do(x.o)
				if err != x.want || err != api.OK && (!sameGift(g, deed.Gift{}) || !disk.Same(before, d)) {
					t.Errorf("%+v: %d, wanted %d", x.o, err, x.want)
				}
				if err != api.OK {
					d.On()
					mustOpen(t, d, 5000, m)
				}
				if err != api.OK && err != api.ErrDown {
					mustTell(t, n, m)
				}
			}
		}
	}
}

// comb answers a tree of so many halves (0,0,1).
func comb(t *testing.T, many int) event.Event {
	t.Helper()
	if many == 1 {
		return parseEvent(t, "(0,0,1)")
	}
	e, err := event.Node(0, comb(t, many/2), comb(t, many-many/2))
	if err != api.OK {
		t.Fatal(err)
	}
	return e
}

// bulky answers versions of contacts that have some 4100 bytes each, and their
// tree.
func bulky(t *testing.T, from, to int) (event.Event, []book.Entry) {
	t.Helper()
	e := comb(t, 3200)
	var l []book.Entry
	for k := from; k < to; k++ {
		for _, name := range "abcdefgh" {
			long := strings.Repeat(string(name), 40)
			c, err := card.Make([]card.Field{{Kind: card.Name, Value: long}, {Kind: card.Note, Value: long}, {Kind: card.Group, Value: long}})
			if err != api.OK {
				t.Fatal(err)
			}
			l = append(l, book.Entry{ID: uint32(k), Version: sibs.Version{Event: e, Card: c}})
		}
	}
	return e, l
}

// P16.3: a record of more bytes than there may be; a state of more, that isn't
// saved, with all records; and one of more behind a record that is torn.
func TestLong(t *testing.T) {
	d := disk.New(1 << 30)
	n, m := mustFormat(t, d, 100, 3, 0, true)
	e, l := bulky(t, 0, 32)
	whole := Op{Kind: Take, Event: e, Entries: l}
	if p, err := whole.Bytes(); err != api.OK || len(p) < api.MaxRecord {
		t.Fatal(len(p))
	}
	before := d.Copy()
	if g, err := n.Do(whole); err != api.ErrLong || !sameGift(g, deed.Gift{}) || !disk.Same(before, d) {
		t.Fatal(err)
	}
	mustTell(t, n, m)
	for from := 0; from < 32; from += 16 {
		e, l := bulky(t, from, from+16)
		o := Op{Kind: Take, Event: e, Entries: l}
		if _, err := n.Do(o); err != api.OK {
			t.Fatal(err)
		}
		m.do(o)
		mustTell(t, n, m)
	}
	if len(n.State()) < api.MaxRecord || n.Log().Count() != 1 || n.Log().Seg() != 2 || n.Save() != api.ErrLong {
		t.Fatal(len(n.State()), n.Log().Count())
	}
	if g, err := n.Do(Op{Kind: Give, To: 5}); err != api.OK || g.To != 5 || n.Log().Count() != 2 {
		t.Fatal(g, err)
	}
	m.do(Op{Kind: Give, To: 5})
	n = mustOpen(t, d, 100, m)
	d.Arm(1, 5)
	if _, err := n.Do(Op{Kind: Boot}); err != api.ErrDown {
		t.Fatal(err)
	}
	d.On()
	n = mustOpen(t, d, 100, m)
	if !n.Log().Torn() || n.Log().Count() != 2 {
		t.Fatal("torn")
	}
	if _, err := n.Do(Op{Kind: Boot}); err != api.ErrState {
		t.Fatal(err)
	}
	mustTell(t, n, m)
}

// P16.3: a log that is Long is saved, but if there is no room for it; it is
// again when there is.
func TestSaveFull(t *testing.T) {
	d := disk.New(120)
	n, m := mustFormat(t, d, 1, 3, 0, true)
	saves, fulls := 0, 0
	for k := range 60 {
		seg := n.Log().Seg()
		if _, err := mustDo(t, n, m, 1, []Op{{Kind: Boot}, {Kind: Put, Contact: uint32(k % 5), Card: named(t, "Ann")}, {Kind: Delete, Contact: uint32(k % 5)}}[k%3]); err == api.ErrFull {
			fulls++
		}
		if n.Log().Seg() > seg {
			saves++
		}
	}
	if saves == 0 || fulls == 0 || n.Log().Count() == 0 {
		t.Fatal(saves, fulls, n.Log().Count())
	}
	if err := n.Save(); err != api.ErrFull {
		t.Fatal(err)
	}
	mustTell(t, n, m)
	mustOpen(t, d, 1, m)
	// The very record that makes it Long stands there.
	d = disk.New(260)
	n, m = mustFormat(t, d, 250, 3, 0, true)
	for !n.Log().Long() {
		if _, err := mustDo(t, n, m, 250, Op{Kind: Boot}); err != api.OK || n.Log().Seg() != 1 {
			t.Fatal(err)
		}
	}
	mustOpen(t, d, 250, m)
}

// P16.3: the power goes at the Save that follows a record.
func TestSaveDown(t *testing.T) {
	for _, writes := range []int{2, 3} {
		for torn := range 60 {
			d := disk.New(9000)
			n, m := mustFormat(t, d, 1, 3, 0, true)
			d.Arm(writes, torn)
			if g, err := n.Do(Op{Kind: Give, To: 5}); err != api.ErrDown || !sameGift(g, deed.Gift{}) {
				t.Fatal(g, err)
			}
			d.On()
			m.do(Op{Kind: Give, To: 5})
			mustOpen(t, d, 1, m)
		}
	}
}

// P16.3: Save writes the state, in the place of what was done.
func TestSave(t *testing.T) {
	d := disk.New(9000)
	n, m := mustFormat(t, d, 5000, 3, 0, true)
	for range 3 {
		mustDo(t, n, m, 5000, Op{Kind: Put, Contact: 5})
		if err := n.Save(); err != api.OK || n.Log().Count() != 0 || !bytes.Equal(n.Log().State(), m.state()) {
			t.Fatal(err)
		}
		mustTell(t, n, m)
		mustOpen(t, d, 5000, m)
	}
	before := d.Copy()
	d.Full(true)
	if err := n.Save(); err != api.ErrFull || !disk.Same(before, d) {
		t.Fatal(err)
	}
	d.Full(false)
	mustDo(t, n, m, 5000, Op{Kind: Boot})
	d.Off()
	if err := n.Save(); err != api.ErrDown {
		t.Fatal(err)
	}
	d.On()
	mustOpen(t, d, 5000, m)
}

// P16.4: errors of Format, in their order.
func TestFormat(t *testing.T) {
	for _, x := range []struct {
		self, parent int
		ok           bool
	}{
		{0, -1, true}, {11, -1, true}, {0, 11, true}, {11, 0, true}, {-1, -1, false}, {12, -1, false}, {-1 << 63, 0, false}, {1<<63 - 1, 0, false},
		{3, 3, false}, {0, 0, false}, {3, -2, false}, {3, 12, false}, {3, 1<<63 - 1, false}, {3, -1 << 63, false},
	} {
		for _, seed := range []bool{false, true} {
			if x.ok {
				n, _ := mustFormat(t, disk.New(99), 9, x.self, x.parent, seed)
				text := map[bool]string{true: "(1;0)", false: "(0;0)"}[seed]
				if n.Deeds().Self() != x.self || n.Parent() != x.parent || n.Leaving() || n.Boots() != 0 || n.Book().Stamp().Text() != text || n.Log().Long() != (len(n.State()) > 0) {
					t.Error(x)
				}
				continue
			}
			d := disk.New(99)
			if n, err := Format(d, 9, x.self, x.parent, seed); n != nil || err != api.ErrArg || len(d.Segs()) > 0 {
				t.Error(x, err)
			}
			if n, err := Format(nil, 0, x.self, x.parent, seed); n != nil || err != api.ErrArg {
				t.Error(x, err)
			}
		}
	}
	used := disk.New(999)
	mustFormat(t, used, 9, 3, 0, true)
	down := used.Copy()
	down.Off()
	armed := disk.New(999)
	armed.Arm(1, 3)
	later := disk.New(999)
	later.Append(7, []byte("x"))
	later.Arm(2, 0)
	for _, x := range []struct {
		d    *disk.Disk
		size int
		want api.Errno
	}{
		{used, 0, api.ErrArg}, {nil, 0, api.ErrArg}, {nil, 1, api.ErrNone}, {down, 0, api.ErrArg}, {down, 1, api.ErrDown}, {used, 1, api.ErrExists},
		{disk.New(10), 1, api.ErrFull}, {disk.New(0), 1, api.ErrFull}, {armed, 1, api.ErrDown}, {later, 1, api.ErrDown},
	} {
		before := x.d.Copy()
		n, err := Format(x.d, x.size, 3, 0, true)
		if n != nil || err != x.want || err != api.ErrDown && !disk.Same(before, x.d) {
			t.Error(x.size, err, x.want)
		}
	}
	// What was torn is no log.
	armed.On()
	if n, err := Open(armed, 9); n != nil || err != api.ErrForm {
		t.Error(err)
	}
	n, m := mustFormat(t, armed, 9, 3, 0, true)
	if n.Log().Seg() != 2 || !slices.Equal(armed.Segs(), []uint64{2}) {
		t.Error(armed.Segs())
	}
	// What was written whole is.
	later.On()
	if _, err := Format(later, 9, 3, 0, true); err != api.ErrExists {
		t.Error(err)
	}
	mustOpen(t, later, 9, m)
}

// logOf answers a disk with a log of a state and records.
func logOf(t *testing.T, state []byte, records ...[]byte) *disk.Disk {
	t.Helper()
	d := disk.New(1 << 20)
	l, err := log.Open(d, 1000)
	if err != api.OK || l.Save(state) != api.OK {
		t.Fatal(err)
	}
	for _, p := range records {
		if err := l.Put(p); err != api.OK {
			t.Fatal(err)
		}
	}
	return d
}

// mustRefuse asks that no node is opened, and nothing written.
func mustRefuse(t *testing.T, d *disk.Disk, size int, want api.Errno) {
	t.Helper()
	before := d.Copy()
	if n, err := Open(d, size); n != nil || err != want || !disk.Same(before, d) {
		t.Fatal(err, want)
	}
}

// P16.4: what Open refuses.
func TestOpenErrors(t *testing.T) {
	m := newModel(3, 0, true)
	good := logOf(t, m.state())
	mustOpen(t, good, 1, m)
	mustRefuse(t, nil, 0, api.ErrArg)
	mustRefuse(t, good, 0, api.ErrArg)
	mustRefuse(t, nil, 1, api.ErrNone)
	mustRefuse(t, disk.New(99), 1, api.ErrForm)
	good.Off()
	mustRefuse(t, good, 1, api.ErrDown)
	mustRefuse(t, good, 0, api.ErrArg)
	put, _ := bytesOf(Op{Kind: Put, Contact: 5, Card: named(t, "Ann")})
	boot := []byte{Boot}
	for _, records := range [][][]byte{{put, boot}, {boot, put, boot}} {
		mm := m.copy()
		for _, p := range records {
			o, _ := opOf(p)
			mm.do(o)
		}
		mustOpen(t, logOf(t, m.state(), records...), 1, mm)
	}
	for _, p := range [][]byte{
		nil, {0}, {12}, {255}, {Boot, 0}, {Leave, 1}, {Done}, {Done, 1}, {Delete, 5}, {Delete, 7}, {Give, 4}, {Give, 13}, {Give, 0}, {Parent, 4}, {Parent, 13}, append(slices.Clone(put), 0), put[:len(put)-1],
	} {
		for _, records := range [][][]byte{{p}, {boot, p}, {p, boot}, {p, p}} {
			mustRefuse(t, logOf(t, m.state(), records...), 100, api.ErrForm)
		}
	}
	// What does nothing where it stands, though it would elsewhere.
	mustRefuse(t, logOf(t, m.state(), []byte{Leave}, put), 100, api.ErrForm)
	mustRefuse(t, logOf(t, m.state(), []byte{Leave}, []byte{Parent, 2}), 100, api.ErrForm)
	mustRefuse(t, logOf(t, m.state(), []byte{Give, 6}, []byte{Give, 6}), 100, api.ErrForm)
	// Torn or not.
	d := logOf(t, m.state(), []byte{12})
	d.Append(1, []byte("x"))
	mustRefuse(t, d, 100, api.ErrForm)
}

// P16.4: states that are nearly one.
func TestOpenStates(t *testing.T) {
	b, d := newModel(3, 0, true).book, newModel(3, 0, true).deeds
	taken, _ := book.Read(b)
	taken.Take(parseEvent(t, "1"), []book.Entry{wrote(t, 5, "1", "Ann"), wrote(t, 6, "1")})
	b = taken.Bytes()
	for _, x := range []struct {
		state []byte
		ok    bool
	}{
		{stateOf(b, d, 0, 0, 0), true}, {stateOf(b, d, 1, 1, 1<<64-1), true}, {stateOf(b, d, 12, 0, 300), true}, {stateOf(b, d, 3, 0, 0), true},
		{stateOf(b, d, 4, 0, 0), false}, {stateOf(b, d, 13, 0, 0), false}, {stateOf(b, d, 1<<64-1, 0, 0), false}, {stateOf(b, d, 1<<63, 0, 0), false}, {stateOf(b, d, 1, 2, 0), false}, {stateOf(b, d, 1, 255, 0), false},
		{stateOf(nil, d, 1, 0, 0), false}, {stateOf(b, nil, 1, 0, 0), false}, {stateOf(d, b, 1, 0, 0), false}, {stateOf(append(slices.Clone(b), 0), d, 1, 0, 0), false}, {stateOf(b, append(slices.Clone(d), 0), 1, 0, 0), false},
		{append(stateOf(b, d, 0, 0, 0), 0), false}, {nil, false},
	} {
		m, ok := modelOf(x.state)
		if ok != x.ok {
			t.Fatalf("%x", x.state)
		}
		if !ok {
			mustRefuse(t, logOf(t, x.state), 100, api.ErrForm)
			continue
		}
		mustTell(t, mustOpen(t, logOf(t, x.state), 100, m), m)
	}
	p := stateOf(b, d, 1, 1, 200)
	try := func(p []byte) {
		t.Helper()
		if m, ok := modelOf(p); ok {
			mustOpen(t, logOf(t, p), 100, m)
		} else {
			mustRefuse(t, logOf(t, p), 100, api.ErrForm)
		}
	}
	for at := range p {
		try(p[:at])
		for _, by := range []byte{0, 1, 2, 3, 12, 13, 0x80, 0xff, p[at] + 1, p[at] - 1, p[at] ^ 0x10} {
			try(slices.Concat(p[:at], []byte{by}, p[at+1:]))
			try(slices.Concat(p[:at], []byte{by}, p[at:]))
		}
	}
}

// P16.4: a log that is Torn is saved; if it can't be, there is no node.
func TestOpenTorn(t *testing.T) {
	m := newModel(3, 0, true)
	torn := func() *disk.Disk {
		d := logOf(t, m.state(), []byte{Boot}, []byte{Boot})
		d.Append(1, []byte("torn"))
		return d
	}
	then := m.copy()
	then.boots = 2
	d := torn()
	n, err := Open(d, 1000)
	if err != api.OK || n.Log().Torn() || n.Log().Count() != 0 || n.Log().Seg() != 2 || !slices.Equal(d.Segs(), []uint64{2}) || !bytes.Equal(n.Log().State(), then.state()) {
		t.Fatal(err)
	}
	mustTell(t, n, then)
	mustDo(t, n, then, 1000, Op{Kind: Boot})
	then.boots = 2
	d = torn()
	d.Full(true)
	mustRefuse(t, d, 1000, api.ErrFull)
	d.Full(false)
	if n, err := Open(d, 1000); err != api.OK || n.Boots() != 2 {
		t.Fatal(err)
	}
	for _, writes := range []int{1, 2} {
		for cut := range 80 {
			d := torn()
			d.Arm(writes, cut)
			if n, err := Open(d, 1000); n != nil || err != api.ErrDown {
				t.Fatal(err)
			}
			d.On()
			n, err := Open(d, 1000)
			if err != api.OK || n.Log().Torn() {
				t.Fatal(err)
			}
			mustTell(t, n, then)
		}
	}
}

// A node that is opened twice has seen no more than the log tells.
func TestOpenLong(t *testing.T) {
	m := newModel(3, 0, true)
	d := logOf(t, m.state(), []byte{Boot}, []byte{Boot})
	m.boots = 2
	if n := mustOpen(t, d, 1, m); !n.Log().Long() || n.Log().Count() != 2 {
		t.Fatal("saved")
	}
}

// P16: of a nil node.
func TestNil(t *testing.T) {
	var n *Node
	for _, o := range []Op{{}, {Kind: Put}, {Kind: Boot}, {Kind: 99}} {
		if g, err := n.Do(o); err != api.ErrNone || !sameGift(g, deed.Gift{}) {
			t.Error(g, err)
		}
	}
	if n.Save() != api.ErrNone || n.Book() != nil || n.Deeds() != nil || n.Parent() != -1 || n.Leaving() || n.Boots() != 0 || n.Log() != nil || n.State() != nil {
		t.Error("nil")
	}
}

// Answers are new memory, and what is handed in isn't kept.
func TestMemory(t *testing.T) {
	n, m := mustFormat(t, disk.New(1<<20), 5000, 3, 0, true)
	roomy := append(make([]book.Entry, 0, 9), wrote(t, 5, "(0,0,1)", "Bob"), wrote(t, 6, "(0,0,1)"))
	adds := append(make([]card.Field, 0, 9), named(t, "Kim").Fields()...)
	take := Op{Kind: Take, Event: parseEvent(t, "1"), Entries: roomy}
	edit := Op{Kind: Edit, Contact: 5, Patch: card.Patch{Adds: adds, Drops: slices.Clone(adds), Clear: []int{2}}}
	for _, o := range []Op{{Kind: Give, To: 7}, take, edit} {
		if _, err := mustDo(t, n, m, 5000, o); err != api.OK {
			t.Fatal(err)
		}
	}
	for _, x := range roomy[2:9] {
		if !sameEntry(x, book.Entry{}) {
			t.Fatal("spare room")
		}
	}
	scrub(roomy, wrote(t, 77, "9"))
	scrub(adds, card.Field{Kind: 4, Value: "no"})
	mustTell(t, n, m)
	mustOpen(t, n.Log().Disk(), 5000, m)
	scrub(n.State(), 0x77)
	n.Book().Put(9, card.Card{})
	n.Book().Give(true)
	n.Deeds().Give(9, id.One())
	n.Deeds().Done(1)
	mustTell(t, n, m)
	b, d := n.Book(), n.Deeds()
	was, did := b.Bytes(), d.Bytes()
	mustDo(t, n, m, 5000, Op{Kind: Put, Contact: 8})
	mustDo(t, n, m, 5000, Op{Kind: Done, No: 1})
	if !bytes.Equal(b.Bytes(), was) || !bytes.Equal(d.Bytes(), did) {
		t.Fatal("shared")
	}
}

// aRow is a row of operations of the node 3 at random, of which most can be
// done.
func aRow(t *testing.T, rnd *rand.Rand, many int) []Op {
	ops := someOps(t)
	var l []Op
	for range many {
		o := ops[rnd.Intn(len(ops))]
		if rnd.Intn(3) == 0 {
			o.Contact = uint32(rnd.Intn(4)) + 4
			o.To = rnd.Intn(15) - 2
			o.No = uint64(rnd.Intn(6))
			o.Gift.No = uint64(rnd.Intn(6))
		}
		l = append(l, o)
	}
	return l
}

// P16.1 to P16.3: long rows at random, without a crash.
func TestLongRows(t *testing.T) {
	rnd := rand.New(rand.NewSource(16))
	for range 60 {
		size, room := 1+rnd.Intn(600), 300+rnd.Intn(2500)
		d := disk.New(room)
		n, m := mustFormat(t, d, size, 3, rnd.Intn(3)-1, rnd.Intn(3) > 0)
		for _, o := range aRow(t, rnd, 80) {
			mustDo(t, n, m, size, o)
			if rnd.Intn(10) == 0 {
				n = mustOpen(t, d, size, m)
			}
		}
	}
}
