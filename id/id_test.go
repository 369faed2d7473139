package id

import (
	"strings"
	"testing"

	"kinfolk/api"
)

// cells is how many places the whole is cut into for the tests that go
// through all ids of at most three levels: an id is then a set of cells.
const cells = 8

// ofSet answers the id that has the cells of a set, from the lowest bit on.
func ofSet(t *testing.T, set, width int) ID {
	t.Helper()
	if width == 1 {
		if set == 0 {
			return Zero()
		}
		return One()
	}
	half := width / 2
	i, err := Pair(ofSet(t, set&(1<<half-1), half), ofSet(t, set>>half, half))
	if err != api.OK {
		t.Fatal(set, width, err)
	}
	return i
}

// setOf answers the cells that an id has.
func setOf(i ID, width int) int {
	if width == 1 {
		if i.IsOne() {
			return 1
		}
		return 0
	}
	half := width / 2
	return setOf(i.Left(), half) | setOf(i.Right(), half)<<half
}

func allIDs(t *testing.T) []ID {
	t.Helper()
	l := make([]ID, 1<<cells)
	for set := range l {
		l[set] = ofSet(t, set, cells)
	}
	return l
}

func parse(t *testing.T, s string) ID {
	t.Helper()
	i, err := Parse(s)
	if err != api.OK || i.Text() != s {
		t.Fatal(s, i.Text(), err)
	}
	return i
}

// rightmost is the id that has the last 1/2^depth of the whole alone.
func rightmost(t *testing.T, depth int) ID {
	t.Helper()
	return parse(t, strings.Repeat("(0,", depth)+"1"+strings.Repeat(")", depth))
}

// comb is the id of 2^depth places of which each other one, from phase on, is
// had.
func comb(t *testing.T, depth, phase int) ID {
	t.Helper()
	i := parse(t, []string{"(1,0)", "(0,1)"}[phase])
	for range depth - 1 {
		next, err := Pair(i, i)
		if err != api.OK {
			t.Fatal(err)
		}
		i = next
	}
	return i
}

// P1.1

func TestLeaves(t *testing.T) {
	var none ID
	for name, i := range map[string]ID{"zero value": none, "Zero": Zero()} {
		if !i.IsZero() || i.IsOne() || i.Depth() != 0 || i.Text() != "0" || !Same(i, Zero()) {
			t.Error(name)
		}
		if !i.Left().IsZero() || !i.Right().IsZero() {
			t.Error(name, "halves")
		}
	}
	i := One()
	if i.IsZero() || !i.IsOne() || i.Depth() != 0 || i.Text() != "1" || !i.Left().IsOne() || !i.Right().IsOne() {
		t.Error("One")
	}
}

func TestPair(t *testing.T) {
	for _, x := range []struct {
		l, r, want string
		depth      int
	}{
		{"0", "0", "0", 0},
		{"1", "1", "1", 0},
		{"1", "0", "(1,0)", 1},
		{"0", "1", "(0,1)", 1},
		{"(1,0)", "(1,0)", "((1,0),(1,0))", 2},
		{"1", "(0,(1,0))", "(1,(0,(1,0)))", 3},
		{"((0,1),1)", "(1,0)", "(((0,1),1),(1,0))", 3},
	} {
		i, err := Pair(parse(t, x.l), parse(t, x.r))
		if err != api.OK || i.Text() != x.want || i.Depth() != x.depth {
			t.Error(x, i.Text(), i.Depth(), err)
		}
		if i.Left().Text() != x.l || i.Right().Text() != x.r {
			t.Error(x, i.Left().Text(), i.Right().Text())
		}
		if i.IsZero() != (x.want == "0") || i.IsOne() != (x.want == "1") {
			t.Error(x, i.IsZero(), i.IsOne())
		}
	}
}

func TestOneForm(t *testing.T) {
	texts := map[string]int{}
	for set, i := range allIDs(t) {
		if got := setOf(i, cells); got != set {
			t.Fatal(set, got)
		}
		if other, ok := texts[i.Text()]; ok {
			t.Fatal(set, other, i.Text())
		}
		texts[i.Text()] = set
		if i.IsZero() != (set == 0) || i.IsOne() != (set == 1<<cells-1) {
			t.Fatal(set, i.Text())
		}
	}
}

func TestDeepestPair(t *testing.T) {
	deep := rightmost(t, api.MaxDepth)
	if deep.Depth() != api.MaxDepth {
		t.Error(deep.Depth())
	}
	for _, x := range [][2]ID{{deep, Zero()}, {Zero(), deep}, {deep, One()}, {One(), deep}, {deep, deep}} {
		if i, err := Pair(x[0], x[1]); err != api.ErrDeep || !i.IsZero() {
			t.Error(i.Text(), err)
		}
	}
	i, err := Pair(One(), deep.Right())
	if err != api.OK || i.Depth() != api.MaxDepth {
		t.Error(i.Depth(), err)
	}
}

// P1.2

func TestSplit(t *testing.T) {
	for _, x := range []struct{ of, a, b string }{
		{"0", "0", "0"},
		{"1", "(1,0)", "(0,1)"},
		{"(0,1)", "(0,(1,0))", "(0,(0,1))"},
		{"(1,0)", "((1,0),0)", "((0,1),0)"},
		{"(1,(0,1))", "(1,0)", "(0,(0,1))"},
		{"((0,1),1)", "((0,1),0)", "(0,1)"},
		{"(0,((1,0),0))", "(0,(((1,0),0),0))", "(0,(((0,1),0),0))"},
		{"((0,(1,(0,1))),0)", "((0,(1,0)),0)", "((0,(0,(0,1))),0)"},
	} {
		i := parse(t, x.of)
		a, b, err := i.Split()
		if err != api.OK || a.Text() != x.a || b.Text() != x.b || i.Text() != x.of {
			t.Error(x, a.Text(), b.Text(), err)
		}
	}
}

func TestSplitPartsAreTheWhole(t *testing.T) {
	for set, i := range allIDs(t) {
		a, b, err := i.Split()
		if err != api.OK || !Disjoint(a, b) || a.IsZero() != (set == 0) || b.IsZero() != (set == 0) {
			t.Fatal(i.Text(), a.Text(), b.Text(), err)
		}
		if s, err := Sum(a, b); err != api.OK || !Same(s, i) || s.Text() != i.Text() {
			t.Fatal(i.Text(), s.Text(), err)
		}
	}
}

func TestDeepestSplit(t *testing.T) {
	deep := rightmost(t, api.MaxDepth)
	if a, b, err := deep.Split(); err != api.ErrDeep || !a.IsZero() || !b.IsZero() {
		t.Error(a.Text(), b.Text(), err)
	}
	left := parse(t, strings.Repeat("(", api.MaxDepth)+"1"+strings.Repeat(",0)", api.MaxDepth))
	if a, b, err := left.Split(); err != api.ErrDeep || !a.IsZero() || !b.IsZero() {
		t.Error(a.Text(), b.Text(), err)
	}
	a, b, err := deep.Right().Split()
	if err != api.OK || a.Depth() != api.MaxDepth || b.Depth() != api.MaxDepth {
		t.Error(a.Depth(), b.Depth(), err)
	}
	// It is as deep as can be, but has two halves that need not be cut.
	both, err := Pair(One(), deep.Right())
	if err != api.OK {
		t.Fatal(err)
	}
	a, b, err = both.Split()
	if err != api.OK || a.Text() != "(1,0)" || !Same(b, deep) {
		t.Error(a.Text(), b.Text(), err)
	}
}

func TestSetsOfTwo(t *testing.T) {
	l := allIDs(t)
	for a := range l {
		for b := range l {
			if got := Disjoint(l[a], l[b]); got != (a&b == 0) {
				t.Fatal(l[a].Text(), l[b].Text(), "Disjoint", got)
			}
			if got := Covers(l[a], l[b]); got != (a|b == a) {
				t.Fatal(l[a].Text(), l[b].Text(), "Covers", got)
			}
			if got := Same(l[a], l[b]); got != (a == b) {
				t.Fatal(l[a].Text(), l[b].Text(), "Same", got)
			}
			checkSum(t, l, a, b)
		}
	}
}

func checkSum(t *testing.T, l []ID, a, b int) {
	t.Helper()
	s, err := Sum(l[a], l[b])
	if a&b != 0 {
		if err != api.ErrOverlap || !s.IsZero() {
			t.Fatal(l[a].Text(), l[b].Text(), s.Text(), err)
		}
		return
	}
	if err != api.OK || s.Text() != l[a|b].Text() || s.Depth() != l[a|b].Depth() {
		t.Fatal(l[a].Text(), l[b].Text(), s.Text(), err)
	}
}

func TestSumAtGreatestDepth(t *testing.T) {
	a, b := comb(t, api.MaxDepth, 0), comb(t, api.MaxDepth, 1)
	if a.Depth() != api.MaxDepth || !Disjoint(a, b) || Covers(a, b) || Same(a, b) {
		t.Error(a.Depth())
	}
	if s, err := Sum(a, b); err != api.OK || !s.IsOne() || s.Depth() != 0 {
		t.Error(s.Depth(), err)
	}
	if s, err := Sum(a, a); err != api.ErrOverlap || !s.IsZero() {
		t.Error(s.Depth(), err)
	}
	a1, a2, err := a.Split()
	if err != api.OK || !Covers(a, a1) || !Covers(a, a2) || Covers(a1, a) {
		t.Error(err)
	}
	if s, err := Sum(a2, a1); err != api.OK || !Same(s, a) {
		t.Error(s.Depth(), err)
	}
}

// P1.3

func TestTextAndBack(t *testing.T) {
	for _, i := range allIDs(t) {
		if !Same(parse(t, i.Text()), i) {
			t.Fatal(i.Text())
		}
	}
	wide := comb(t, api.MaxDepth, 1)
	if !Same(parse(t, wide.Text()), wide) {
		t.Fatal("comb")
	}
}

// TestParseOfAllShortTexts tells each text of few signs either as the one of
// an id, or as none.
func TestParseOfAllShortTexts(t *testing.T) {
	const signs = "01(,)"
	const longest = 9
	ids := map[string]int{}
	for set, i := range allIDs(t) {
		ids[i.Text()] = set
	}
	found := 0
	var try func(p []byte)
	try = func(p []byte) {
		s := string(p)
		i, err := Parse(s)
		set, ok := ids[s]
		switch {
		case ok && (err != api.OK || setOf(i, cells) != set):
			t.Fatal(s, i.Text(), err)
		case !ok && (err != api.ErrForm || !i.IsZero()):
			t.Fatal(s, i.Text(), err)
		case ok:
			found++
		}
		if len(p) == longest {
			return
		}
		for at := range len(signs) {
			try(append(p, signs[at]))
		}
	}
	try(make([]byte, 0, longest))
	// 0, 1, two pairs of leaves, and eight of a leaf and such a pair.
	if found != 12 {
		t.Error(found)
	}
}

func TestParseOfNoID(t *testing.T) {
	for _, s := range []string{
		"", " ", "2", "00", "10", "a", "-1", "0 ", " 1", "1\n", "\x00", "\xff", "１",
		"(", ")", ",", "()", "(,)", "(1)", "(1,)", "(,1)", "(1,0", "1,0", "1,0)", "(1 0)", "(1, 0)",
		"(1,0)x", "(1,0))", "(1,0)(", "(1,0),", "((1,0)", "(1,0,0)", "(1;0)", "[1,0]",
		"(0,0)", "(1,1)", "((0,0),1)", "(1,(0,0))", "(0,(1,1))", "((1,1),(1,0))", "((1,0),(1,1))",
	} {
		if i, err := Parse(s); err != api.ErrForm || !i.IsZero() {
			t.Errorf("%q: %s %d", s, i.Text(), err)
		}
	}
}

func TestParseOfDeepTexts(t *testing.T) {
	for _, deep := range []int{api.MaxDepth + 1, 100, 1 << 16, 1 << 20} {
		right := func(in string) string {
			return strings.Repeat("(0,", deep-1) + in + strings.Repeat(")", deep-1)
		}
		left := func(in string) string {
			return strings.Repeat("(", deep-1) + in + strings.Repeat(",1)", deep-1)
		}
		for s, want := range map[string]api.Errno{
			right("(0,1)"):                   api.ErrDeep,
			left("(1,0)"):                    api.ErrDeep,
			right("(1,1)"):                   api.ErrForm,
			right("(0,0)"):                   api.ErrForm,
			left("(1,1)"):                    api.ErrForm,
			right("(0,1)") + ")":             api.ErrForm,
			right("(0,1)") + " ":             api.ErrForm,
			right("(0,2)"):                   api.ErrForm,
			right("(0,1"):                    api.ErrForm,
			"(" + left("(1,0)") + ",0)":      api.ErrDeep,
			"(" + right("(0,1)") + ",(1,1))": api.ErrForm,
			"((0,0)," + left("(1,0)") + ")":  api.ErrForm,
			strings.Repeat("(", deep):        api.ErrForm,
			strings.Repeat("(0,", deep):      api.ErrForm,
			strings.Repeat("((0,1),", deep):  api.ErrForm,
		} {
			if i, err := Parse(s); err != want || !i.IsZero() {
				t.Error(deep, s[:20], len(s), err, want)
			}
		}
	}
}
