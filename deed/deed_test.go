package deed

import (
	"math/rand"
	"slices"
	"testing"

	"kinfolk/api"
	"kinfolk/id"
)

// P15.2: the document's example.
func TestNamed(t *testing.T) {
	d := New(0)
	if g, err := d.Give(2, id.One()); err != api.OK || g.No != 1 || g.From != 0 || g.To != 2 || !g.Share.IsOne() {
		t.Fatal(g, err)
	}
	if err := d.Done(1); err != api.OK || !d.Gave(2) || len(d.Pending()) != 0 {
		t.Fatal(err)
	}
}

// P15.1: of any node, without anything.
func TestNew(t *testing.T) {
	for _, self := range []int{-1 << 63, -1, 0, 5, 11, 12, 1 << 31, 1<<63 - 1} {
		mustTell(t, New(self), newModel(self))
	}
}

// P15.1: each part of a gift, at its edges.
func TestRight(t *testing.T) {
	shares := []id.ID{id.Zero(), id.One(), parseID(t, "(0,1)"), {}}
	nodes := []int{-1 << 63, -1, 0, 1, 10, 11, 12, 1<<63 - 1}
	many := 0
	for _, no := range []uint64{0, 1, 2, 1<<62 - 1, 1 << 62, 1<<62 + 1, 1 << 63, 1<<64 - 1} {
		for _, from := range nodes {
			for _, to := range nodes {
				for _, share := range shares {
					g := Gift{no, from, to, share}
					if g.Right() != rightGift(g) {
						t.Errorf("%+v", g)
					}
					if g.Right() {
						many++
					}
				}
			}
		}
	}
	if many != 3*12*2 {
		t.Error(many)
	}
}

// rows does each row of so many steps with deeds and their model, and goes on
// with copies, so that each row is of deeds of its own.
func rows(t *testing.T, d *Deeds, m *model, steps []step, many int) {
	t.Helper()
	if many == 0 {
		return
	}
	for _, s := range steps {
		dd, mm := d.Copy(), m.copy()
		s.must(t, dd, mm)
		rows(t, dd, mm, steps, many-1)
	}
	mustTell(t, d, m)
}

// P15.2, P15.3: all short rows of steps.
func TestAllRows(t *testing.T) {
	one, half := id.One(), parseID(t, "(0,1)")
	steps := []step{
		{kind: aGive, to: 5, share: one}, {kind: aGive, to: 2, share: half}, {kind: aGive, to: 3, share: one}, {kind: aGive, to: 5}, {kind: aGive, to: 12, share: one},
		{kind: aDone, no: 0}, {kind: aDone, no: 1}, {kind: aDone, no: 2},
		{kind: aTake, gift: Gift{1, 5, 3, one}}, {kind: aTake, gift: Gift{1, 5, 3, half}}, {kind: aTake, gift: Gift{2, 5, 3, one}}, {kind: aTake, gift: Gift{1, 2, 3, one}},
		{kind: aTake, gift: Gift{1, 3, 5, one}}, {kind: aTake, gift: Gift{0, 5, 3, one}},
	}
	for _, self := range []int{3, 5, 12, -1} {
		rows(t, New(self), newModel(self), steps, 4)
	}
}

// P15.2, P15.3: long rows at random.
func TestLongRows(t *testing.T) {
	shares := []id.ID{id.One(), parseID(t, "(0,1)"), parseID(t, "((0,1),(1,0))"), id.Zero()}
	seen := map[api.Errno]int{}
	for round := range 50 {
		rnd := rand.New(rand.NewSource(int64(round)))
		self := rnd.Intn(12)
		d, m := New(self), newModel(self)
		for range 200 {
			s := step{kind: rnd.Intn(3), to: rnd.Intn(14) - 1, share: shares[rnd.Intn(4)], no: uint64(rnd.Intn(int(d.Last()) + 2))}
			if l := d.Pending(); len(l) > 0 && rnd.Intn(2) == 0 {
				s.no = l[rnd.Intn(len(l))].No
			}
			s.gift = Gift{[]uint64{0, 1, 2, 3, 4, 1<<62 - 1, 1 << 62, 1<<64 - 1}[rnd.Intn(8)], rnd.Intn(14) - 1, self, shares[rnd.Intn(4)]}
			if rnd.Intn(9) == 0 {
				s.gift.To = rnd.Intn(12)
			}
			seen[s.must(t, d, m)]++
			if err := mustRead(t, d.Bytes()); err != api.OK {
				t.Fatal(err)
			}
		}
	}
	for _, err := range []api.Errno{api.OK, api.ErrArg, api.ErrNone, api.ErrExists} {
		if seen[err] < 50 {
			t.Error("seldom", err, seen)
		}
	}
}

// P15.2: of several errors the one that is named first.
func TestGiveErrors(t *testing.T) {
	d := New(3)
	if _, err := d.Give(5, id.One()); err != api.OK {
		t.Fatal(err)
	}
	for _, x := range []struct {
		to    int
		share id.ID
		want  api.Errno
	}{
		{5, id.One(), api.ErrExists}, {5, id.Zero(), api.ErrArg}, {3, id.One(), api.ErrArg}, {-1, id.One(), api.ErrArg}, {12, id.One(), api.ErrArg},
		{0, id.Zero(), api.ErrArg}, {0, id.One(), api.OK}, {11, id.One(), api.OK},
	} {
		last := d.Last()
		g, err := d.Give(x.to, x.share)
		if err != x.want || err != api.OK && (!sameGift(g, Gift{}) || d.Last() != last || x.to != 5 && d.Gave(x.to)) {
			t.Errorf("%+v: %v %d", x, g, err)
		}
	}
	for _, self := range []int{-1, 12, 1<<63 - 1, -1 << 63} {
		d := New(self)
		if g, err := d.Give(5, id.One()); err != api.ErrArg || !sameGift(g, Gift{}) || d.Last() != 0 {
			t.Error(self, g, err)
		}
		if err := d.Take(Gift{1, 5, self, id.One()}); err != api.ErrArg || len(d.Marks()) != 0 {
			t.Error(self, err)
		}
	}
}

// P15.2: numbers go on to the greatest one, and no further.
func TestLastNumber(t *testing.T) {
	d, err := Read(deedsBytes(3, 1<<62-2, nil, nil, nil))
	if err != api.OK {
		t.Fatal(err)
	}
	if g, err := d.Give(5, id.One()); err != api.OK || g.No != 1<<62-1 || d.Last() != g.No {
		t.Fatal(g, err)
	}
	for _, to := range []int{6, 5} {
		if g, err := d.Give(to, id.One()); err != api.ErrArg || !sameGift(g, Gift{}) || d.Last() != 1<<62-1 {
			t.Fatal(g, err)
		}
	}
	if err := d.Done(1<<62 - 1); err != api.OK || len(d.Pending()) != 0 {
		t.Fatal(err)
	}
	if err := d.Done(1<<62 - 1); err != api.ErrNone {
		t.Fatal(err)
	}
}

// P15.2: to each other node one is pending, whichever is done.
func TestAllNodes(t *testing.T) {
	d, m := New(4), newModel(4)
	for range 2 {
		for _, to := range []int{7, 0, 11, 3, 5, 1, 2, 6, 8, 9, 10} {
			if err := (step{kind: aGive, to: to, share: id.One()}).must(t, d, m); err != api.OK {
				t.Fatal(to, err)
			}
			if err := (step{kind: aGive, to: to, share: id.One()}).must(t, d, m); err != api.ErrExists {
				t.Fatal(to, err)
			}
		}
		for _, no := range []uint64{6, 1, 11, 3, 2, 10, 4, 5, 7, 8, 9} {
			if err := (step{kind: aDone, no: d.Last() - 11 + no}).must(t, d, m); err != api.OK {
				t.Fatal(no, err)
			}
		}
	}
}

// Copies: what is done with one changes no other.
func TestCopy(t *testing.T) {
	rnd := rand.New(rand.NewSource(15))
	all, models := []*Deeds{New(3)}, []*model{newModel(3)}
	for range 600 {
		at := rnd.Intn(len(all))
		d, m := all[at].Copy(), models[at].copy()
		mustTell(t, d, m)
		step{kind: rnd.Intn(3), to: rnd.Intn(12), share: id.One(), no: uint64(rnd.Intn(5)), gift: Gift{uint64(rnd.Intn(5)), rnd.Intn(12), 3, id.One()}}.must(t, d, m)
		all, models = append(all, d), append(models, m)
	}
	for at, d := range all {
		mustTell(t, d, models[at])
	}
}

// P15: of nil deeds ErrNone, nothing, false, 0, nil.
func TestNil(t *testing.T) {
	var d *Deeds
	for _, to := range []int{-1, 0, 5, 12} {
		if g, err := d.Give(to, id.Zero()); err != api.ErrNone || !sameGift(g, Gift{}) {
			t.Error(g, err)
		}
		if g, ok := d.To(to); ok || !sameGift(g, Gift{}) || d.Gave(to) {
			t.Error(g, ok)
		}
	}
	for _, g := range []Gift{{}, {1, 5, 0, id.One()}} {
		if err := d.Take(g); err != api.ErrNone || d.Took(Mark{g.From, g.No}) {
			t.Error(err)
		}
	}
	if d.Done(0) != api.ErrNone || d.Done(1) != api.ErrNone || d.Self() != 0 || d.Last() != 0 || d.Pending() != nil || d.Marks() != nil || d.Copy() != nil || d.Bytes() != nil {
		t.Error("nil")
	}
}

// scrub writes over all of a list, and its spare room.
func scrub[T any](l []T, by T) {
	l = l[:cap(l)]
	for i := range l {
		l[i] = by
	}
}

// Answers are new memory.
func TestMemory(t *testing.T) {
	d, m := New(3), newModel(3)
	for k := range 12 {
		step{kind: aGive, to: k, share: id.One()}.must(t, d, m)
		step{kind: aTake, gift: Gift{uint64(k), k, 3, id.One()}}.must(t, d, m)
		before := d.Pending()
		scrub(d.Pending(), Gift{77, 7, 7, id.One()})
		scrub(d.Marks(), Mark{7, 77})
		scrub(d.Bytes(), 0x77)
		mustTell(t, d, m)
		d.Done(uint64(k / 2))
		m.do(step{kind: aDone, no: uint64(k / 2)})
		if slices.ContainsFunc(before, func(g Gift) bool { return !g.Right() }) {
			t.Fatal(before)
		}
		mustTell(t, d, m)
	}
}
