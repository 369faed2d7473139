package stamp

import (
	"math/bits"
	"slices"
	"strconv"
	"strings"
	"testing"

	"kinfolk/api"
	"kinfolk/event"
	"kinfolk/id"
)

// The tests that go through all small stamps tell an id by the places that it
// has, and a tree by the heights of its places.
type (
	parts   []bool
	heights []uint64
)

func ofParts(t *testing.T, l parts) id.ID {
	t.Helper()
	if len(l) == 1 {
		if l[0] {
			return id.One()
		}
		return id.Zero()
	}
	half := len(l) / 2
	i, err := id.Pair(ofParts(t, l[:half]), ofParts(t, l[half:]))
	if err != api.OK {
		t.Fatal(l, err)
	}
	return i
}

func ofHeights(t *testing.T, l heights) event.Event {
	t.Helper()
	e, err := event.Leaf(l[0])
	if half := len(l) / 2; half > 0 {
		e, err = event.Node(0, ofHeights(t, l[:half]), ofHeights(t, l[half:]))
	}
	if err != api.OK {
		t.Fatal(l, err)
	}
	return e
}

func addHeights(l heights, e event.Event, upon uint64, width int) heights {
	if width == 1 {
		return append(l, upon+e.Base())
	}
	l = addHeights(l, e.Left(), upon+e.Base(), width/2)
	return addHeights(l, e.Right(), upon+e.Base(), width/2)
}

func allParts(n int) []parts {
	var all []parts
	for k := range 1 << n {
		l := make(parts, n)
		for at := range l {
			l[at] = k>>at&1 == 1
		}
		all = append(all, l)
	}
	return all
}

func allHeights(n int, below uint64) []heights {
	all := []heights{{}}
	for range n {
		var next []heights
		for _, l := range all {
			for h := range below {
				next = append(next, append(slices.Clone(l), h))
			}
		}
		all = next
	}
	return all
}

// small is a pair of an id and a tree, told both ways.
type small struct {
	has parts
	h   heights
	i   id.ID
	e   event.Event
}

// smalls are all pairs of four places and heights below 4, and of eight places
// and heights below 2.
func smalls(t *testing.T) []small {
	t.Helper()
	var all []small
	for _, c := range []struct {
		n     int
		below uint64
	}{{4, 4}, {8, 2}} {
		trees := allHeights(c.n, c.below)
		for _, has := range allParts(c.n) {
			for _, h := range trees {
				all = append(all, small{has, h, ofParts(t, has), ofHeights(t, h)})
			}
		}
	}
	return all
}

func allOf(l parts) bool  { return !slices.Contains(l, false) }
func noneOf(l parts) bool { return !slices.Contains(l, true) }

func isLevel(l heights) bool { return slices.Min(l) == slices.Max(l) }

func level(n int, h uint64) heights { return slices.Repeat(heights{h}, n) }

// fillHeights is Fill on heights: a part is a leaf just if it is level.
func fillHeights(has parts, h heights) heights {
	n := len(h)
	half := n / 2
	switch {
	case noneOf(has) || isLevel(h):
		return h
	case allOf(has):
		return level(n, slices.Max(h))
	}
	hasL, hasR, l, r := has[:half], has[half:], h[:half], h[half:]
	switch {
	case allOf(hasL):
		r = fillHeights(hasR, r)
		l = level(half, max(slices.Max(l), slices.Min(r)))
	case allOf(hasR):
		l = fillHeights(hasL, l)
		r = level(half, max(slices.Max(r), slices.Min(l)))
	default:
		l, r = fillHeights(hasL, l), fillHeights(hasR, r)
	}
	return slices.Concat(l, r)
}

func TestFillOfAllSmall(t *testing.T) {
	for _, c := range smalls(t) {
		if f := Fill(c.i, c.e); f.Text() != ofHeights(t, fillHeights(c.has, c.h)).Text() {
			t.Fatal(c.i.Text(), c.e.Text(), f.Text())
		}
	}
}

func TestFillOfExamples(t *testing.T) {
	for _, c := range []struct{ i, e, f string }{
		{"0", "(1,(0,0,1),2)", "(1,(0,0,1),2)"},
		{"1", "(1,(0,0,1),2)", "3"},
		{"(1,0)", "7", "7"},
		{"(1,0)", "(0,0,(2,0,1))", "(2,0,(0,0,1))"},
		{"(0,1)", "(0,(2,0,1),0)", "(2,(0,0,1),0)"},
		{"(1,(0,1))", "(0,0,(1,0,3))", "(1,0,(0,0,3))"},
		// The right half is filled first: so its least is 2.
		{"(1,(1,0))", "(0,0,(0,0,2))", "2"},
		{"((0,1),1)", "(0,(0,2,0),0)", "2"},
		{"((1,0),(0,1))", "(0,(0,0,2),(0,3,0))", "(2,0,1)"},
	} {
		if f := Fill(parseID(t, c.i), parseEvent(t, c.e)); f.Text() != c.f {
			t.Error(c.i, c.e, f.Text())
		}
	}
}

func TestFillAtTheLimits(t *testing.T) {
	deep := strings.Repeat("(0,0,", api.MaxDepth) + "5" + strings.Repeat(")", api.MaxDepth)
	if f := Fill(id.One(), parseEvent(t, deep)); f.Text() != "5" {
		t.Error(f.Text())
	}
	if f := Fill(parseID(t, "(1,0)"), parseEvent(t, deep)); f.Text() != deep {
		t.Error(f.Text())
	}
	if f := Fill(parseID(t, "(0,1)"), parseEvent(t, deep)); f.Text() != "(0,0,5)" {
		t.Error(f.Text())
	}
	high := "(1,0," + strconv.Itoa(api.MaxCount-1) + ")"
	if f := Fill(id.One(), parseEvent(t, high)); f.Text() != strconv.Itoa(api.MaxCount) {
		t.Error(f.Text())
	}
}

// place is where a tree may grow: path tells the halves that lead there.
type place struct {
	path []int
	cost int
}

// allPlaces are all ends of the ways that Grow may go, from the left on, each
// with its own cost, whatever the others cost.
func allPlaces(i id.ID, e event.Event, at place) []place {
	if i.IsZero() {
		return nil
	}
	if i.IsOne() && e.IsLeaf() {
		return []place{at}
	}
	cost := at.cost + 1
	if e.IsLeaf() {
		cost += 1000
	}
	l := place{append(slices.Clone(at.path), 0), cost}
	r := place{append(slices.Clone(at.path), 1), cost}
	return append(allPlaces(i.Left(), e.Left(), l), allPlaces(i.Right(), e.Right(), r)...)
}

// best is the cheapest place, of several the last one.
func best(l []place) place {
	b := l[0]
	for _, p := range l {
		if p.cost <= b.cost {
			b = p
		}
	}
	return b
}

// liftPlace lifts all that is at the end of the path by one.
func liftPlace(h heights, path []int) heights {
	from, to := 0, len(h)
	for _, half := range path {
		mid := (from + to) / 2
		if half == 0 {
			to = mid
		} else {
			from = mid
		}
	}
	h = slices.Clone(h)
	for at := from; at < to; at++ {
		h[at]++
	}
	return h
}

func TestGrowOfAllSmall(t *testing.T) {
	for _, c := range smalls(t) {
		g, cost, err := Grow(c.i, c.e)
		if noneOf(c.has) {
			if err != api.ErrNone || cost != 0 || g != c.e {
				t.Fatal(c.i.Text(), c.e.Text(), g.Text(), cost, err)
			}
			continue
		}
		b := best(allPlaces(c.i, c.e, place{}))
		want := ofHeights(t, liftPlace(c.h, b.path))
		if err != api.OK || cost != b.cost || g.Text() != want.Text() {
			t.Fatal(c.i.Text(), c.e.Text(), g.Text(), cost, err)
		}
	}
}

func TestGrowOfExamples(t *testing.T) {
	for _, c := range []struct {
		i, e, g string
		cost    int
	}{
		{"1", "0", "1", 0},
		{"1", "(0,1,0)", "1", 1},
		{"1", "(0,0,1)", "(0,0,2)", 1},
		{"1", "(0,0,(0,0,1))", "(0,1,(0,0,1))", 1},
		{"(1,0)", "0", "(0,1,0)", 1001},
		{"(0,1)", "4", "(4,0,1)", 1001},
		{"(1,(0,1))", "0", "(0,1,0)", 1001},
		{"((0,1),(1,0))", "3", "(3,0,(0,1,0))", 2002},
		{"((0,1),(1,0))", "(3,(0,0,1),0)", "(3,(0,0,2),0)", 2},
		{"(1,(0,1))", "(0,0,(1,0,3))", "(1,0,(0,0,3))", 1},
		{"(0,(0,(0,1)))", "(0,0,(0,1,0))", "(0,0,(0,1,(0,0,1)))", 1003},
	} {
		g, cost, err := Grow(parseID(t, c.i), parseEvent(t, c.e))
		if err != api.OK || g.Text() != c.g || cost != c.cost {
			t.Error(c.i, c.e, g.Text(), cost, err)
		}
	}
}

func TestGrowOfNothing(t *testing.T) {
	for _, s := range []string{"0", "7", "(1,(0,0,1),2)", strconv.Itoa(api.MaxCount)} {
		e := parseEvent(t, s)
		if g, cost, err := Grow(id.Zero(), e); err != api.ErrNone || cost != 0 || g != e {
			t.Error(s, g.Text(), cost, err)
		}
	}
}

func TestGrowAboveTheGreatestHeight(t *testing.T) {
	most := strconv.Itoa(api.MaxCount)
	less := strconv.Itoa(api.MaxCount - 1)
	for _, c := range []struct {
		i, e string
		cost int
	}{
		{"1", most, 0},
		{"(1,0)", most, 1001},
		{"((0,1),(1,0))", most, 2002},
		{"(0,1)", "(0,0," + most + ")", 1},
		{"(0,1)", "(5,(0,1,0)," + strconv.Itoa(api.MaxCount-5) + ")", 1},
		{"(0,(0,1))", "(" + less + ",0,1)", 1002},
		// The cheapest is too high already; that the other isn't doesn't count.
		{"1", "(" + less + ",0,1)", 1},
		{"(1,(0,1))", "(" + less + ",1,0)", 1},
	} {
		e := parseEvent(t, c.e)
		g, cost, err := Grow(parseID(t, c.i), e)
		if err != api.ErrCount || cost != c.cost || g != e {
			t.Error(c.i, c.e, g.Text(), cost, err)
		}
	}
	for _, c := range []struct{ i, e, g string }{
		{"1", less, most},
		{"(1,0)", less, "(" + less + ",1,0)"},
		{"1", "(" + less + ",1,0)", most},
	} {
		if g, _, err := Grow(parseID(t, c.i), parseEvent(t, c.e)); err != api.OK || g.Text() != c.g {
			t.Error(c.i, c.e, g.Text(), err)
		}
	}
}

func TestGrowAtTheGreatestDepth(t *testing.T) {
	i := parseID(t, strings.Repeat("(0,", api.MaxDepth)+"1"+strings.Repeat(")", api.MaxDepth))
	want := strings.Repeat("(0,0,", api.MaxDepth) + "1" + strings.Repeat(")", api.MaxDepth)
	g, cost, err := Grow(i, event.Event{})
	if err != api.OK || g.Text() != want || cost != 1001*api.MaxDepth {
		t.Error(g.Text(), cost, err)
	}
	// The whole goes down to the cheapest leaf of what has grown so far.
	g, cost, err = Grow(id.One(), g)
	if err != api.OK || g.Text() != "(0,1,"+strings.TrimPrefix(want, "(0,0,") || cost != 1 {
		t.Error(g.Text(), cost, err)
	}
	// Ids and trees that are as wide as they can be.
	comb, full := parseID(t, "(0,1)"), event.Event{}
	for range api.MaxDepth - 1 {
		comb, _ = id.Pair(comb, comb)
	}
	g, cost, err = Grow(comb, full)
	if err != api.OK || g.Text() != want || cost != 1001*api.MaxDepth {
		t.Error(g.Text(), cost, err)
	}
	full = parseEvent(t, "(0,0,1)")
	for range api.MaxDepth - 1 {
		full, _ = event.Node(0, full, full)
	}
	g, cost, err = Grow(id.One(), full)
	if err != api.OK || cost != api.MaxDepth || g.Max() != 2 || !event.Leq(full, g) {
		t.Error(cost, err)
	}
}

func TestTickOfAllSmall(t *testing.T) {
	for _, c := range smalls(t) {
		s := Stamp{ID: c.i, Event: c.e}
		got, err := s.Tick()
		if noneOf(c.has) {
			if err != api.ErrNone || got != s {
				t.Fatal(s.Text(), got.Text(), err)
			}
			continue
		}
		want := ofHeights(t, fillHeights(c.has, c.h))
		if event.Same(want, c.e) {
			want, _, _ = Grow(c.i, c.e)
		}
		if err != api.OK || !id.Same(got.ID, c.i) || got.Event.Text() != want.Text() {
			t.Fatal(s.Text(), got.Text(), err)
		}
		if !Leq(s, got) || Leq(got, s) {
			t.Fatal(s.Text(), got.Text())
		}
		for at, h := range addHeights(nil, got.Event, 0, len(c.h)) {
			if !c.has[at] && h != c.h[at] {
				t.Fatal(s.Text(), got.Text())
			}
		}
	}
}

func TestTickOfExamples(t *testing.T) {
	for _, c := range []struct{ s, got string }{
		{"(1;0)", "(1;1)"},
		{"((1,0);0)", "((1,0);(0,1,0))"},
		{"(1;(0,1,0))", "(1;1)"},
		{"((0,1);(0,1,0))", "((0,1);1)"},
		{"((1,(0,1));(0,0,(1,0,3)))", "((1,(0,1));(1,0,(0,0,3)))"},
		{"((1,(0,1));(1,0,(0,0,3)))", "((1,(0,1));(1,1,(0,0,3)))"},
	} {
		if got, err := parse(t, c.s).Tick(); err != api.OK || got.Text() != c.got {
			t.Error(c.s, got.Text(), err)
		}
	}
}

func TestTickThatCannotBe(t *testing.T) {
	most := strconv.Itoa(api.MaxCount)
	for _, c := range []struct {
		s   string
		err api.Errno
	}{
		{"(0;(0,1,0))", api.ErrNone},
		{"(0;" + most + ")", api.ErrNone},
		{"(1;" + most + ")", api.ErrCount},
		{"((1,0);" + most + ")", api.ErrCount},
		{"((1,0);(0," + most + ",0))", api.ErrCount},
	} {
		s := parse(t, c.s)
		if got, err := s.Tick(); err != c.err || got != s {
			t.Error(c.s, got.Text(), err)
		}
	}
	// What can be filled need not grow.
	if got, err := parse(t, "(1;(0,"+most+",0))").Tick(); err != api.OK || got.Text() != "(1;"+most+")" {
		t.Error(got.Text(), err)
	}
}

func TestTickManyTimes(t *testing.T) {
	s := parse(t, "((0,(1,0));0)")
	for n := 1; n <= 1000; n++ {
		next, err := s.Tick()
		if want := "((0,(1,0));(0,0,(0," + strconv.Itoa(n) + ",0)))"; err != api.OK || next.Text() != want {
			t.Fatal(next.Text(), err)
		}
		s = next
	}
}

// holder is a stamp, and the events that its owner has seen, as bits.
type holder struct {
	s    Stamp
	seen [4]uint64
}

func (a holder) within(b holder) bool {
	for k := range a.seen {
		if a.seen[k]&^b.seen[k] != 0 {
			return false
		}
	}
	return true
}

// dice is a rule for numbers that look like drawn ones, the same each time.
type dice uint64

func (d *dice) below(n int) int {
	*d = *d*6364136223846793005 + 1442695040888963407
	high, _ := bits.Mul64(uint64(*d), uint64(n))
	return int(high)
}

// TestLeqTellsWhoHasSeenWhat forks, ticks, joins and tells at random, and holds
// the stamps against the sets of what was seen.
func TestLeqTellsWhoHasSeenWhat(t *testing.T) {
	for round := range 300 {
		d := dice(round)
		all := []holder{{s: Seed()}}
		happened := 0
		for happened < 256 && len(all) > 0 {
			at := d.below(len(all))
			h := all[at]
			switch d.below(5) {
			case 0, 1:
				s, err := h.s.Tick()
				if err != api.OK {
					t.Fatal(h.s.Text(), err)
				}
				h.s = s
				h.seen[happened/64] |= 1 << (happened % 64)
				happened++
				all[at] = h
			case 2:
				a, b, err := h.s.Fork()
				if err == api.OK && len(all) < 8 {
					all[at].s = a
					all = append(all, holder{b, h.seen})
				}
			case 3:
				all = joinLast(t, all, at)
			case 4:
				other := all[d.below(len(all))]
				s, err := Join(h.s, other.s.Peek())
				if err != api.OK {
					t.Fatal(h.s.Text(), other.s.Text(), err)
				}
				all[at] = holder{s, union(h, other)}
			}
			look(t, all)
		}
	}
}

func union(a, b holder) [4]uint64 {
	for k := range a.seen {
		a.seen[k] |= b.seen[k]
	}
	return a.seen
}

// joinLast joins the last holder into the one at a place.
func joinLast(t *testing.T, all []holder, at int) []holder {
	t.Helper()
	last := len(all) - 1
	if at == last {
		return all
	}
	s, err := Join(all[at].s, all[last].s)
	if err != api.OK {
		t.Fatal(all[at].s.Text(), all[last].s.Text(), err)
	}
	all[at] = holder{s, union(all[at], all[last])}
	return all[:last]
}

func look(t *testing.T, all []holder) {
	t.Helper()
	for _, a := range all {
		for _, b := range all {
			if Leq(a.s, b.s) != a.within(b) {
				t.Fatal(a.s.Text(), b.s.Text(), a.seen, b.seen)
			}
		}
	}
}
