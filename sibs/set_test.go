package sibs

import (
	"math/rand"
	"slices"
	"testing"

	"kinfolk/api"
	"kinfolk/card"
	"kinfolk/event"
)

// P13.2: the document's example.
func TestSetNamed(t *testing.T) {
	ann := named(t, "Ann")
	s := Set{}.Add(Version{Event: treeOf(t, 1, 0), Card: ann}).Add(Version{Event: treeOf(t, 0, 1), Card: ann})
	if s.Len() != 2 {
		t.Fatal(s.Len())
	}
	last := Version{Event: treeOf(t, 1), Card: ann}
	if s = s.Add(last); s.Len() != 1 || !whole(s.List()[0], last) {
		t.Fatal(s.List())
	}
}

// P13.2: a zero Set has none.
func TestSetZero(t *testing.T) {
	var s Set
	mustHave(t, s, nil)
	mustHave(t, s.Merge(Set{}), nil)
	mustHave(t, s.Add(Version{Card: named(t, "Ann"), Gone: true}), nil)
	if s.Has(Version{}) || s.Has(Version{Gone: true}) || len(s.Missing(event.Event{})) != 0 || !Alike(s, Set{}) {
		t.Fatal("none")
	}
	// One of a tree of noughts is one, too.
	one := s.Add(Version{})
	mustHave(t, one, []known{{}})
	if !one.Has(Version{}) || one.Has(Version{Gone: true}) || len(one.Missing(event.Event{})) != 0 || Alike(one, s) || Alike(s, one) {
		t.Fatal("one")
	}
}

// P13.2: all rows of a few versions, however often and in whichever order.
func TestSetRows(t *testing.T) {
	type row struct {
		s     Set
		added []known
	}
	all := few(t)
	rows := []row{{}}
	for at := 0; at < len(rows); at++ {
		r := rows[at]
		want := model(r.added)
		mustHave(t, r.s, want)
		for _, v := range all {
			there := slices.ContainsFunc(want, func(w known) bool { return whole(w.Version, v.Version) })
			if r.s.Has(v.Version) != there {
				t.Fatalf("%+v in %+v", v, want)
			}
			if len(r.added) < 5 {
				rows = append(rows, row{r.s.Add(v.Version), append(slices.Clone(r.added), v)})
			}
		}
	}
}

// P13.2: all two sets of a few versions.
func TestSetTwo(t *testing.T) {
	all := few(t)
	var sets []Set
	var models [][]known
	for bits := range 1 << len(all) {
		s := addAll(Set{}, subset(all, bits))
		sets, models = append(sets, s), append(models, model(subset(all, bits)))
		mustHave(t, s, models[bits])
	}
	for a, s := range sets {
		for b, u := range sets {
			mustHave(t, s.Merge(u), models[a|b])
			alike := slices.EqualFunc(models[a], models[b], func(x, y known) bool { return x.bytes() == y.bytes() })
			if Alike(s, u) != alike {
				t.Fatal(a, b)
			}
		}
	}
}

// P13.2: Alike looks at each version, and at how many there are.
func TestAlike(t *testing.T) {
	e := treeOf(t, 0, 1)
	ann, bob := Version{Event: e, Card: named(t, "Ann")}, Version{Event: e, Card: named(t, "Bob")}
	sets := []Set{{}, Set{}.Add(ann), Set{}.Add(bob), Set{}.Add(ann).Add(bob), Set{}.Add(Version{Event: e, Gone: true}), Set{}.Add(Version{Event: e}), Set{}.Add(Version{Event: treeOf(t, 1, 0), Card: named(t, "Ann")})}
	for i, s := range sets {
		for j, u := range sets {
			if Alike(s, u) != (i == j) {
				t.Fatal(i, j)
			}
		}
	}
	if !Alike(Set{}.Add(bob).Add(ann), sets[3]) {
		t.Fatal("order")
	}
}

// P13.2: one that isn't Right isn't there, though one of its bytes is.
func TestNotRight(t *testing.T) {
	e := treeOf(t, 0, 1)
	good, bad := Version{Event: e, Gone: true}, Version{Event: e, Card: named(t, "Ann"), Gone: true}
	s := Set{}.Add(good)
	if !s.Has(good) || s.Has(bad) || (Set{}).Has(bad) {
		t.Fatal("has")
	}
	if u := s.Add(bad); u.Len() != 1 || !whole(u.List()[0], good) {
		t.Fatal(u.List())
	}
	// It takes nothing away, however much its writer had seen.
	bad.Event = treeOf(t, 9)
	if u := s.Add(bad); !Alike(u, s) || u.Has(bad) {
		t.Fatal(u.List())
	}
}

// P13.2: those whose tree isn't at most another one.
func TestMissing(t *testing.T) {
	all := few(t)
	places := []uint64{0, 1, 2, 299, 300}
	for n := range 5 * 5 * 5 * 5 {
		h := heights{places[n%5], places[n/5%5], places[n/25%5], places[n/125]}
		e := treeOf(t, h[:]...)
		for bits := n % 3; bits < 1<<len(all); bits += 3 {
			s := addAll(Set{}, subset(all, bits))
			var want []known
			for _, v := range model(subset(all, bits)) {
				if !v.at.leq(h) {
					want = append(want, v)
				}
			}
			mustList(t, s.Missing(e), want)
		}
	}
}

// P13.2: many versions, in any order, of which many are Under others.
func TestSetMany(t *testing.T) {
	rnd := rand.New(rand.NewSource(132))
	all := some(t)
	for range 60 {
		var added []known
		var s, u Set
		for range 80 {
			v := all[rnd.Intn(len(all))]
			added = append(added, v)
			if rnd.Intn(2) == 0 {
				s = s.Add(v.Version)
			} else {
				u = u.Add(v.Version)
			}
		}
		want := model(added)
		mustHave(t, s.Merge(u), want)
		mustHave(t, u.Merge(s), want)
		mustHave(t, s.Merge(s).Merge(u).Merge(u), want)
		rnd.Shuffle(len(added), func(i, j int) { added[i], added[j] = added[j], added[i] })
		mustHave(t, addAll(Set{}, added), want)
	}
	// As many as stand side by side of one tree.
	var s Set
	var want []known
	for n := range 300 {
		v := aKnown(t, named(t, string([]byte{'a' + byte(n%26), 'a' + byte(n/26)})), false, heights{1, 0, 0, 0})
		s, want = s.Add(v.Version), append(want, v)
	}
	mustHave(t, s, model(want))
	if s = s.Add(Version{Event: treeOf(t, 1)}); s.Len() != 1 {
		t.Fatal(s.Len())
	}
}

// A set is a value: what one does with one changes no other, and no answer.
func TestSetMemory(t *testing.T) {
	rnd := rand.New(rand.NewSource(133))
	all := some(t)
	sets, models := []Set{{}}, [][]known{nil}
	for range 400 {
		at, other := rnd.Intn(len(sets)), rnd.Intn(len(sets))
		v := all[rnd.Intn(len(all))]
		sets, models = append(sets, sets[at].Add(v.Version)), append(models, append(slices.Clone(models[at]), v))
		sets, models = append(sets, sets[at].Merge(sets[other])), append(models, append(slices.Clone(models[at]), models[other]...))
		models[len(models)-1] = model(models[len(models)-1])
		for _, l := range [][]Version{sets[at].List(), sets[at].Missing(event.Event{})} {
			l = l[:cap(l)]
			for i := range l {
				l[i] = Version{Event: treeOf(t, 77), Gone: true}
			}
		}
		live := sets[at].Live()
		live = live[:cap(live)]
		clear(live)
		if len(live) > 0 {
			live[0], _ = card.Make([]card.Field{{Kind: card.Name, Value: "scrubbed"}})
		}
	}
	for k, s := range sets {
		mustHave(t, s, model(models[k]))
	}
}

// P13.1, P13.2: what a set tells is read again.
func TestSetRead(t *testing.T) {
	var s Set
	for _, v := range few(t) {
		s = s.Add(v.Version)
	}
	for _, v := range s.List() {
		w, err := ReadVersion(v.Bytes())
		if err != api.OK || !s.Has(w) || !Alike(s.Add(w), s) {
			t.Fatalf("%+v", v)
		}
	}
}
