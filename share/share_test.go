package share

import (
	"math"
	"slices"
	"strings"
	"testing"

	"kinfolk/api"
	"kinfolk/event"
	"kinfolk/id"
)

// The tests that go through all ids of at most three levels tell an id by the
// cells that it has: the bits of a number, the leftmost cell the lowest bit.
const cells = 8

// ofCells answers the id that has these cells of width that begin at at.
func ofCells(t *testing.T, has, at, width int) id.ID {
	t.Helper()
	if width == 1 {
		if has>>at&1 == 1 {
			return id.One()
		}
		return id.Zero()
	}
	i, err := id.Pair(ofCells(t, has, at, width/2), ofCells(t, has, at+width/2, width/2))
	if err != api.OK {
		t.Fatal(has, err)
	}
	return i
}

func allIDs(t *testing.T) []id.ID {
	t.Helper()
	var all []id.ID
	for has := range 1 << cells {
		all = append(all, ofCells(t, has, 0, cells))
	}
	return all
}

// hasBlock says whether all cells of a block are there.
func hasBlock(has, at, width int) bool {
	block := (1<<width - 1) << at
	return has&block == block
}

// spansOfCells tells the spans without going through an id: of all blocks that
// are there, those of which the block around isn't.
func spansOfCells(has int) []complex128 {
	var l []complex128
	for at := range cells {
		for width := 1; width <= cells; width *= 2 {
			if at%width != 0 || !hasBlock(has, at, width) {
				continue
			}
			around := at / (2 * width) * 2 * width
			if width == cells || !hasBlock(has, around, 2*width) {
				l = append(l, complex(float64(at)/cells, float64(width)/cells))
			}
		}
	}
	return l
}

func parseID(t *testing.T, s string) id.ID {
	t.Helper()
	i, err := id.Parse(s)
	if err != api.OK {
		t.Fatal(s, err)
	}
	return i
}

func parseEvent(t *testing.T, s string) event.Event {
	t.Helper()
	e, err := event.Parse(s)
	if err != api.OK {
		t.Fatal(s, err)
	}
	return e
}

// plain says whether no part is below 0, nor the nought below 0.
func plain(c complex128) bool { return !math.Signbit(real(c)) && !math.Signbit(imag(c)) }

// comb is the id of the greatest depth whose cells come and go by turns.
func comb(t *testing.T) id.ID {
	t.Helper()
	i := id.One()
	i, err := id.Pair(id.Zero(), i)
	for range api.MaxDepth - 1 {
		if err == api.OK {
			i, err = id.Pair(i, i)
		}
	}
	if err != api.OK {
		t.Fatal(err)
	}
	return i
}

func TestSpansOfAllSmallIDs(t *testing.T) {
	for has, i := range allIDs(t) {
		l := Spans(i)
		if !slices.Equal(l, spansOfCells(has)) {
			t.Fatal(i.Text(), l)
		}
		for _, c := range l {
			if !plain(c) {
				t.Fatal(i.Text(), l)
			}
		}
	}
}

func TestSpansOfExamples(t *testing.T) {
	if l := Spans(id.Zero()); len(l) != 0 {
		t.Error(l)
	}
	if l := Spans(id.One()); !slices.Equal(l, []complex128{1i}) {
		t.Error(l)
	}
	// Two that touch stay two.
	if l := Spans(parseID(t, "((0,1),(1,0))")); !slices.Equal(l, []complex128{0.25 + 0.25i, 0.5 + 0.25i}) {
		t.Error(l)
	}
}

func TestSpansAreNewMemory(t *testing.T) {
	i := parseID(t, "(1,(0,1))")
	want := []complex128{0.5i, 0.75 + 0.25i}
	l := Spans(i)
	for at := range l[:cap(l)] {
		l[:cap(l)][at] = 7
	}
	if again := Spans(i); !slices.Equal(again, want) {
		t.Error(again)
	}
	given := append(slices.Clone(want), 9)
	x, err := Of(given[:2])
	if err != api.OK || !slices.Equal(given, append(slices.Clone(want), 9)) {
		t.Error(given, err)
	}
	given[0], given[1] = 0, 0
	if !id.Same(x, i) {
		t.Error(x.Text())
	}
}

func TestOfIsWhatSpansWereOf(t *testing.T) {
	for _, i := range allIDs(t) {
		x, err := Of(Spans(i))
		if err != api.OK || !id.Same(x, i) {
			t.Fatal(i.Text(), x.Text(), err)
		}
	}
	for _, i := range []id.ID{comb(t), parseID(t, strings.Repeat("(0,", api.MaxDepth)+"1"+strings.Repeat(")", api.MaxDepth))} {
		x, err := Of(Spans(i))
		if err != api.OK || !id.Same(x, i) {
			t.Fatal(len(Spans(i)), err)
		}
	}
}

// candidates are all spans of ids of two levels, and numbers that are none.
func candidates() []complex128 {
	below := math.Copysign(0, -1)
	return []complex128{
		1i, 0.5i, 0.5 + 0.5i,
		0.25i, 0.25 + 0.25i, 0.5 + 0.25i, 0.75 + 0.25i,
		complex(below, 0.5), complex(below, 0.25),
		0, 1, 0.5, 2i, -1i, -0.5 + 0.5i, -1 + 1i, 1 + 1i, 1 + 0.5i,
		0.25 + 0.5i, 0.125 + 0.25i, 0.5 + 1i, 0.75i, 0.3i, 0.3 + 0.25i, 0.25 - 0.25i,
		complex(0.5, below), complex(below, below),
		complex(math.NaN(), 0.5), complex(0, math.NaN()), complex(math.NaN(), math.NaN()),
		complex(math.Inf(1), 0.5), complex(math.Inf(-1), 0.5), complex(0, math.Inf(1)), complex(0, math.Inf(-1)),
		complex(math.SmallestNonzeroFloat64, 0.5), complex(0.5, math.Nextafter(0.5, 1)), complex(math.MaxFloat64, math.MaxFloat64),
	}
}

func TestOfAllShortLists(t *testing.T) {
	ids := allIDs(t)
	// What is wanted is found by the spans alone.
	var spans [][]complex128
	for has := range ids {
		spans = append(spans, spansOfCells(has))
	}
	look := func(l []complex128) {
		given := slices.Clone(l)
		x, err := Of(given)
		has := slices.IndexFunc(spans, func(s []complex128) bool { return slices.Equal(s, l) })
		if has < 0 && (err != api.ErrForm || !x.IsZero()) || has >= 0 && (err != api.OK || !id.Same(x, ids[has])) {
			t.Fatal(l, x.Text(), err)
		}
	}
	all := candidates()
	look(nil)
	look([]complex128{})
	for _, a := range all {
		look([]complex128{a})
		for _, b := range all {
			look([]complex128{a, b})
			for _, c := range all[:9] {
				look([]complex128{a, b, c})
				look([]complex128{a, c, b})
				look([]complex128{c, a, b})
			}
		}
	}
}

func TestOfAtTheGreatestDepth(t *testing.T) {
	least := math.Ldexp(1, -api.MaxDepth)
	for _, c := range []complex128{complex(0, least), complex(1-least, least), complex(2*least, least)} {
		i, err := Of([]complex128{c})
		if err != api.OK || i.Depth() != api.MaxDepth || !slices.Equal(Spans(i), []complex128{c}) {
			t.Error(c, err)
		}
	}
	for _, l := range [][]complex128{
		{complex(0, least/2)},
		{complex(1-least/2, least/2)},
		{complex(least/2, least)},
		{complex(0, least), complex(least, least)},
		{complex(least, least), complex(0, least)},
		{complex(least, least), complex(least, least)},
	} {
		if i, err := Of(l); err != api.ErrForm || !i.IsZero() {
			t.Error(l, err)
		}
	}
}

func TestOfEndsWithLongLists(t *testing.T) {
	l := make([]complex128, 1<<20)
	if _, err := Of(l); err != api.ErrForm {
		t.Error(err)
	}
	for at := range l {
		l[at] = complex(float64(at)/float64(len(l)), 1/float64(len(l)))
	}
	if _, err := Of(l); err != api.ErrForm {
		t.Error(err)
	}
	all := Spans(comb(t))
	if len(all) != 1<<(api.MaxDepth-1) {
		t.Error(len(all))
	}
	// One that comes again, and one that is missing.
	if _, err := Of(append(slices.Clone(all), all[len(all)-1])); err != api.ErrForm {
		t.Error(err)
	}
	less := slices.Delete(slices.Clone(all), 100, 101)
	if i, err := Of(less); err != api.OK || !slices.Equal(Spans(i), less) {
		t.Error(err)
	}
}

// measureOfCells is Measure without an id.
func measureOfCells(has int) complex128 {
	sum := 0.0
	for at := range cells {
		sum += float64(has>>at&1) / cells
	}
	return complex(sum, float64(len(spansOfCells(has))))
}

func TestMeasureAndCommonOfAllSmallIDs(t *testing.T) {
	all := allIDs(t)
	for a, x := range all {
		if m := Measure(x); m != measureOfCells(a) || !plain(m) {
			t.Fatal(x.Text(), m)
		}
		for b, y := range all {
			if m := Common(x, y); m != measureOfCells(a&b) || !plain(m) {
				t.Fatal(x.Text(), y.Text(), m)
			}
		}
	}
}

func TestMeasureOfExamples(t *testing.T) {
	if m := Measure(parseID(t, "(1,(0,1))")); m != 0.75+2i {
		t.Error(m)
	}
	if m := Measure(comb(t)); m != complex(0.5, 1<<(api.MaxDepth-1)) {
		t.Error(m)
	}
	if m := Common(comb(t), parseID(t, "(0,(1,0))")); m != complex(0.125, 1<<(api.MaxDepth-3)) {
		t.Error(m)
	}
	least := id.One()
	for range api.MaxDepth {
		least, _ = id.Pair(least, id.Zero())
	}
	if m := Measure(least); m != complex(math.Ldexp(1, -api.MaxDepth), 1) {
		t.Error(m)
	}
	if m := Common(least, comb(t)); m != 0 || !plain(m) {
		t.Error(m)
	}
}

// ofHeights answers the tree of these heights.
func ofHeights(t *testing.T, l []uint64) event.Event {
	t.Helper()
	e, err := event.Leaf(l[0])
	if half := len(l) / 2; half > 0 {
		e, err = event.Node(0, ofHeights(t, l[:half]), ofHeights(t, l[half:]))
	}
	if err != api.OK {
		t.Fatal(l, err)
	}
	return e
}

func TestWeightOfAllSmall(t *testing.T) {
	all := allIDs(t)
	for k := range 3 * 3 * 3 * 3 {
		// Four places, of two cells each; two numbers make a greatest height
		// that isn't that of the most.
		heights := []uint64{uint64(k % 3), uint64(k / 3 % 3), 5 * uint64(k/9%3), 1 + uint64(k/27)}
		e := ofHeights(t, heights)
		for has, i := range all {
			sum, most := uint64(0), uint64(0)
			for at := range cells {
				if has>>at&1 == 1 {
					sum += heights[at/2]
					most = max(most, heights[at/2])
				}
			}
			if w := Weight(e, i); w != complex(float64(sum)/cells, float64(most)) || !plain(w) {
				t.Fatal(e.Text(), i.Text(), w)
			}
		}
	}
}

func TestWeightBelowTheIDsLeaves(t *testing.T) {
	// The tree goes deeper than the id, and the other way round.
	for _, c := range []struct {
		e, i string
		w    complex128
	}{
		{"(1,2,(0,0,5))", "(1,(0,1))", 3 + 6i},
		{"(0,(0,(0,0,8),0),0)", "1", 1 + 8i},
		{"(0,(0,(0,0,8),0),0)", "(1,0)", 1 + 8i},
		{"(0,(0,(0,0,8),0),0)", "(0,1)", 0},
		{"(2,(0,(0,0,8),0),0)", "(0,1)", 1 + 2i},
		{"7", "(0,(1,(0,1)))", 7*0.375 + 7i},
		{"7", "0", 0},
		{"0", "1", 0},
	} {
		if w := Weight(parseEvent(t, c.e), parseID(t, c.i)); w != c.w || !plain(w) {
			t.Error(c.e, c.i, w)
		}
	}
}

func TestWeightIsExactAtTheLimits(t *testing.T) {
	// The least place has the greatest height, all the others one less.
	e, _ := event.Leaf(1)
	nought := event.Event{}
	err := api.OK
	for d := range api.MaxDepth {
		base := uint64(0)
		if d == api.MaxDepth-1 {
			base = api.MaxCount - 1
		}
		e, err = event.Node(base, e, nought)
		if err != api.OK {
			t.Fatal(err)
		}
	}
	want := complex(api.MaxCount-1+math.Ldexp(1, -api.MaxDepth), api.MaxCount)
	if w := Weight(e, id.One()); w != want {
		t.Error(w)
	}
	if w := Weight(e, comb(t)); w != complex((api.MaxCount-1)*0.5, api.MaxCount-1) {
		t.Error(w)
	}
}

// turned is what so many quarters, from 0 to 3, make of c.
func turned(c complex128, quarters int) complex128 {
	a, b := real(c), imag(c)
	switch quarters {
	case 1:
		return complex(-b, a)
	case 2:
		return complex(-a, -b)
	case 3:
		return complex(b, -a)
	}
	return c
}

func TestTurn(t *testing.T) {
	parts := []float64{0, math.Copysign(0, -1), 1, -1, 0.75, -2.5, math.MaxFloat64, -math.SmallestNonzeroFloat64}
	turns := []struct{ by, quarters int }{
		{0, 0}, {1, 1}, {2, 2}, {3, 3}, {4, 0}, {5, 1}, {6, 2}, {7, 3}, {401, 1},
		{-1, 3}, {-2, 2}, {-3, 1}, {-4, 0}, {-5, 3}, {-6, 2}, {-7, 1}, {-8, 0},
		{math.MaxInt, 3}, {math.MinInt, 0}, {math.MinInt + 1, 1}, {math.MaxInt - 1, 2},
	}
	for _, a := range parts {
		for _, b := range parts {
			for _, k := range turns {
				if c := Turn(complex(a, b), k.by); c != turned(complex(a, b), k.quarters) {
					t.Fatal(a, b, k.by, c)
				}
			}
		}
	}
}

func TestTurnIsTimesTheUnit(t *testing.T) {
	c := 3 + 4i
	for by := range 9 {
		if got := Turn(3+4i, by); got != c {
			t.Fatal(by, got)
		}
		c *= 1i
	}
}
