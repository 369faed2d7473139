package node

import (
	"math/rand"
	"testing"

	"kinfolk/api"
	"kinfolk/book"
	"kinfolk/card"
	"kinfolk/deed"
	"kinfolk/disk"
	"kinfolk/event"
	"kinfolk/id"
)

// mustReopen opens a node anew, behind a crash at an operation: it must be as
// ahead of that, or as behind it. It answers the node and its model.
func mustReopen(t *testing.T, d *disk.Disk, size int, m *model, o Op) (*Node, *model) {
	t.Helper()
	d.On()
	n, err := Open(d, size)
	if err != api.OK || n.Log().Torn() {
		t.Fatal(err)
	}
	next := m.copy()
	if _, err := next.do(o); err == api.OK && string(n.State()) == string(next.state()) {
		m = next
	}
	mustTell(t, n, m)
	return n, m
}

// crash does a row with the power going at one write; it answers whether it
// went.
func crash(t *testing.T, ops []Op, size, writes, torn int) bool {
	t.Helper()
	d := disk.New(1 << 16)
	n, m := mustFormat(t, d, size, 3, 0, true)
	d.Arm(writes, torn)
	for i, o := range ops {
		g, err := n.Do(o)
		if err != api.ErrDown {
			if want, wantErr := m.do(o); err != wantErr || !sameGift(g, want) {
				t.Fatal(i, err)
			}
			continue
		}
		n, m = mustReopen(t, d, size, m, o)
		for _, o := range ops[i:] {
			mustDo(t, n, m, size, o)
		}
		return true
	}
	mustTell(t, n, m)
	return false
}

// P16.3, P6: wherever the power goes, torn anywhere.
func TestCrashes(t *testing.T) {
	bob := []book.Entry{wrote(t, 5, "(0,0,1)", "Bob")}
	gift := deed.Gift{No: 4, From: 0, To: 3, Share: parseID(t, "(0,1)")}
	ops := []Op{
		{Kind: Boot}, {Kind: Give, To: 5}, {Kind: Put, Contact: 5, Card: named(t, "Ann")}, {Kind: Done, No: 1}, {Kind: Delete, Contact: 9},
		{Kind: Take, Event: parseEvent(t, "(0,0,1)"), Entries: bob}, {Kind: Resolve, Contact: 5, Card: named(t, "Eve")},
		{Kind: Edit, Contact: 5, Patch: card.Patch{Clear: []int{card.Name}}}, {Kind: Parent, To: 7}, {Kind: Accept, Gift: gift, Event: parseEvent(t, "3")}, {Kind: Delete, Contact: 5},
		{Kind: Leave}, {Kind: Done, No: 2},
	}
	for _, size := range []int{1, 60, 1000} {
		for torn := -1; torn < 100; torn += 1 + torn/16 {
			writes := 1
			for crash(t, ops, size, writes, torn) {
				writes++
			}
			// All but one of them write.
			if writes < len(ops) {
				t.Fatal(writes)
			}
		}
	}
}

// P16.3: a gift that was answered is pending, wherever the power goes then.
func TestGiftsSurvive(t *testing.T) {
	for torn := range 40 {
		d := disk.New(1 << 16)
		n, m := mustFormat(t, d, 1000, 3, 0, true)
		g, err := mustDo(t, n, m, 1000, Op{Kind: Give, To: 5})
		if err != api.OK {
			t.Fatal(err)
		}
		d.Arm(1, torn)
		next := Op{Kind: Give, To: 6}
		n.Do(next)
		n, _ = mustReopen(t, d, 1000, m, next)
		all := n.Book().Stamp().ID
		for _, x := range n.Deeds().Pending() {
			sum, err := id.Sum(all, x.Share)
			if err != api.OK {
				t.Fatal(err)
			}
			all = sum
		}
		if first, there := n.Deeds().To(5); !there || !sameGift(first, g) || !all.IsOne() {
			t.Fatal(all.Text())
		}
	}
}

// family is nodes that give to one another, and take of one another.
type family struct {
	nodes  []*Node
	models []*model
	disks  []*disk.Disk
	size   int
}

// aStep is an operation of one of them at random.
func (f *family) aStep(t *testing.T, rnd *rand.Rand, at int) Op {
	other := rnd.Intn(len(f.nodes))
	from := f.nodes[other]
	o := Op{Kind: 1 + rnd.Intn(11), Contact: uint32(rnd.Intn(4)), Card: named(t, []string{"Ann", "Bob", "Eve"}[:rnd.Intn(4)]...), To: other, No: uint64(1 + rnd.Intn(5))}
	o.Patch = card.Patch{Adds: named(t, "Kim").Fields(), Clear: []int{card.Phone}}
	o.Event = from.Book().Stamp().Event
	o.Entries = from.Book().Missing(f.nodes[at].Book().Stamp().Event)
	if g, there := from.Deeds().To(at); there {
		o.Kind = []int{Accept, Take, Put}[rnd.Intn(3)]
		o.Gift, o.Entries = g, from.Book().Missing(event.Event{})
	}
	if l := f.nodes[at].Deeds().Pending(); len(l) > 0 && rnd.Intn(2) == 0 {
		g := l[0]
		if f.nodes[g.To].Deeds().Took(deed.Mark{From: at, No: g.No}) {
			o.Kind, o.No = Done, g.No
		}
	}
	// A gift that didn't come is never done.
	if o.Kind == Leave && rnd.Intn(4) > 0 || o.Kind == Done && !f.came(at, o.No) {
		o.Kind = Boot
	}
	return o
}

// came says whether a gift's taker has it.
func (f *family) came(at int, no uint64) bool {
	for _, g := range f.nodes[at].Deeds().Pending() {
		if g.No == no {
			return f.nodes[g.To].Deeds().Took(deed.Mark{From: at, No: no})
		}
	}
	return true
}

// mustShare asks that each part of the whole is somebody's, once.
func (f *family) mustShare(t *testing.T) {
	t.Helper()
	all := id.Zero()
	add := func(i id.ID) {
		sum, err := id.Sum(all, i)
		if err != api.OK {
			t.Fatal(all.Text(), i.Text())
		}
		all = sum
	}
	for at, n := range f.nodes {
		add(n.Book().Stamp().ID)
		for _, g := range n.Deeds().Pending() {
			if !f.came(at, g.No) {
				add(g.Share)
			}
		}
	}
	if !all.IsOne() {
		t.Fatal(all.Text())
	}
}

// P16.2, P16.3: nodes that give, take and crash at random; each part of the
// whole is somebody's, once.
func TestFamilies(t *testing.T) {
	seen := map[api.Errno]int{}
	for round := range 25 {
		rnd := rand.New(rand.NewSource(int64(round)))
		f := &family{size: 1 + rnd.Intn(500)}
		for k := range 4 {
			d := disk.New(1 << 16)
			n, m := mustFormat(t, d, f.size, k, (k+3)%4, k == 0)
			f.nodes, f.models, f.disks = append(f.nodes, n), append(f.models, m), append(f.disks, d)
		}
		for range 150 {
			at := rnd.Intn(4)
			o := f.aStep(t, rnd, at)
			if rnd.Intn(4) > 0 {
				_, err := mustDo(t, f.nodes[at], f.models[at], f.size, o)
				seen[err]++
				f.mustShare(t)
				continue
			}
			f.disks[at].Arm(1+rnd.Intn(3), rnd.Intn(120))
			if _, err := f.nodes[at].Do(o); err == api.ErrDown {
				seen[err]++
			} else {
				f.models[at].do(o)
			}
			f.nodes[at], f.models[at] = mustReopen(t, f.disks[at], f.size, f.models[at], o)
			f.mustShare(t)
		}
	}
	for _, err := range []api.Errno{api.OK, api.ErrNone, api.ErrState, api.ErrDown, api.ErrExists, api.ErrArg} {
		if seen[err] < 20 {
			t.Error("seldom", err, seen)
		}
	}
}
