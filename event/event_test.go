package event

import (
	"math"
	"slices"
	"strconv"
	"strings"
	"testing"

	"kinfolk/api"
)

// The tests that go through all trees of at most two levels, and of heights
// below tall, tell a tree by the heights of its places.
const (
	places = 4
	tall   = 4
)

type heights [places]uint64

// ofHeights answers the tree of these heights, each told upon a base that is
// no greater than any of them.
func ofHeights(t *testing.T, l []uint64, base uint64) Event {
	t.Helper()
	if len(l) == 1 {
		e, err := Leaf(l[0] - base)
		if err != api.OK {
			t.Fatal(l, base, err)
		}
		return e
	}
	half := len(l) / 2
	e, err := Node(0, ofHeights(t, l[:half], base), ofHeights(t, l[half:], base))
	if err != api.OK {
		t.Fatal(l, base, err)
	}
	return e
}

// addHeights goes through a tree by its exported calls alone.
func addHeights(l []uint64, e Event, upon uint64, width int) []uint64 {
	if width == 1 {
		return append(l, upon+e.Base())
	}
	l = addHeights(l, e.Left(), upon+e.Base(), width/2)
	return addHeights(l, e.Right(), upon+e.Base(), width/2)
}

func heightsOf(e Event) heights { return heights(addHeights(nil, e, 0, places)) }

func allHeights() []heights {
	var all []heights
	for k := range tall * tall * tall * tall {
		var h heights
		for at := range h {
			h[at] = uint64(k % tall)
			k /= tall
		}
		all = append(all, h)
	}
	return all
}

func allEvents(t *testing.T) []Event {
	t.Helper()
	var all []Event
	for _, h := range allHeights() {
		all = append(all, ofHeights(t, h[:], 0))
	}
	return all
}

func leaf(t *testing.T, n uint64) Event {
	t.Helper()
	e, err := Leaf(n)
	if err != api.OK {
		t.Fatal(n, err)
	}
	return e
}

func parse(t *testing.T, s string) Event {
	t.Helper()
	e, err := Parse(s)
	if err != api.OK || e.Text() != s {
		t.Fatal(s, e.Text(), err)
	}
	return e
}

func isZero(e Event) bool { return e.IsLeaf() && e.Base() == 0 }

// deepText is a tree's text of a depth: each base but the innermost is 0.
func deepText(depth int, in string) string {
	return strings.Repeat("(0,0,", depth) + in + strings.Repeat(")", depth)
}

// comb is a tree of 2^depth places whose heights are low and high by turns.
func comb(t *testing.T, depth int, low, high uint64) Event {
	t.Helper()
	e, err := Node(0, leaf(t, low), leaf(t, high))
	for range depth - 1 {
		if err != api.OK {
			t.Fatal(err)
		}
		e, err = Node(0, e, e)
	}
	if err != api.OK {
		t.Fatal(err)
	}
	return e
}

// P2.1

func TestLeaf(t *testing.T) {
	var none Event
	if !isZero(none) || none.Text() != "0" || !Same(none, leaf(t, 0)) {
		t.Error("zero value")
	}
	for _, n := range []uint64{0, 1, 9, 10, api.MaxCount - 1, api.MaxCount} {
		e := leaf(t, n)
		if !e.IsLeaf() || e.Base() != n || e.Min() != n || e.Max() != n || e.Depth() != 0 {
			t.Error(n, e.Text())
		}
		if !isZero(e.Left()) || !isZero(e.Right()) {
			t.Error(n, e.Left().Text(), e.Right().Text())
		}
	}
	for _, n := range []uint64{api.MaxCount + 1, 1 << 32, 1 << 63, math.MaxUint64} {
		if e, err := Leaf(n); err != api.ErrCount || !isZero(e) {
			t.Error(n, e.Text(), err)
		}
	}
}

func TestNode(t *testing.T) {
	for _, x := range []struct {
		n                      uint64
		l, r                   string
		want, left, right      string
		least, greatest, depth int
	}{
		{1, "2", "3", "(3,0,1)", "0", "1", 3, 4, 1},
		{0, "0", "0", "0", "0", "0", 0, 0, 0},
		{2, "5", "5", "7", "0", "0", 7, 7, 0},
		{0, "4", "1", "(1,3,0)", "3", "0", 1, 4, 1},
		{0, "(0,0,1)", "0", "(0,(0,0,1),0)", "(0,0,1)", "0", 0, 1, 2},
		{0, "(2,0,1)", "3", "(2,(0,0,1),1)", "(0,0,1)", "1", 2, 3, 2},
		{5, "(2,0,1)", "(2,0,1)", "(7,(0,0,1),(0,0,1))", "(0,0,1)", "(0,0,1)", 7, 8, 2},
		{1, "1", "(3,(0,0,7),1)", "(2,0,(2,(0,0,7),1))", "0", "(2,(0,0,7),1)", 2, 11, 3},
	} {
		l, r := parse(t, x.l), parse(t, x.r)
		e, err := Node(x.n, l, r)
		if l.Text() != x.l || r.Text() != x.r {
			t.Error(x, "changed", l.Text(), r.Text())
		}
		if err != api.OK || e.Text() != x.want || e.IsLeaf() != (x.depth == 0) || e.Depth() != x.depth {
			t.Error(x, e.Text(), err)
		}
		if e.Left().Text() != x.left || e.Right().Text() != x.right {
			t.Error(x, e.Left().Text(), e.Right().Text())
		}
		if e.Base() != uint64(x.least) || e.Min() != uint64(x.least) || e.Max() != uint64(x.greatest) {
			t.Error(x, e.Base(), e.Min(), e.Max())
		}
	}
}

func checkForm(t *testing.T, e Event) {
	t.Helper()
	if e.IsLeaf() {
		return
	}
	l, r := e.Left(), e.Right()
	if l.Min() != 0 && r.Min() != 0 || l.IsLeaf() && r.IsLeaf() && l.Base() == r.Base() {
		t.Fatal(e.Text())
	}
	checkForm(t, l)
	checkForm(t, r)
}

func TestOneForm(t *testing.T) {
	texts := map[string]heights{}
	for _, h := range allHeights() {
		e := ofHeights(t, h[:], 0)
		checkForm(t, e)
		if got := heightsOf(e); got != h {
			t.Fatal(h, got)
		}
		if e.Min() != slices.Min(h[:]) || e.Max() != slices.Max(h[:]) {
			t.Fatal(h, e.Min(), e.Max())
		}
		if other, ok := texts[e.Text()]; ok {
			t.Fatal(h, other, e.Text())
		}
		texts[e.Text()] = h
		// The same heights, put together from another base, are the same tree.
		for n := range slices.Min(h[:]) + 1 {
			half := places / 2
			same, err := Node(n, ofHeights(t, h[:half], n), ofHeights(t, h[half:], n))
			if err != api.OK || same.Text() != e.Text() || same.Depth() != e.Depth() {
				t.Fatal(h, n, same.Text(), err)
			}
		}
	}
}

func TestNodeLimits(t *testing.T) {
	deep := parse(t, deepText(api.MaxDepth, "1"))
	if deep.Depth() != api.MaxDepth {
		t.Error(deep.Depth())
	}
	one, top := leaf(t, 1), leaf(t, api.MaxCount)
	for _, x := range []struct {
		n    uint64
		l, r Event
		want api.Errno
	}{
		{0, deep, Event{}, api.ErrDeep},
		{0, Event{}, deep, api.ErrDeep},
		{3, deep, deep, api.ErrDeep},
		{api.MaxCount + 1, deep, one, api.ErrDeep},
		{api.MaxCount, one, deep, api.ErrDeep},
		{math.MaxUint64, deep, deep, api.ErrDeep},
		{1, top, Event{}, api.ErrCount},
		{1, Event{}, top, api.ErrCount},
		{1, top, top, api.ErrCount},
		{api.MaxCount, one, one, api.ErrCount},
		{api.MaxCount, one, Event{}, api.ErrCount},
		{api.MaxCount, Event{}, deep.Right(), api.ErrCount},
		{api.MaxCount + 1, Event{}, Event{}, api.ErrCount},
		{math.MaxUint64, Event{}, Event{}, api.ErrCount},
		{math.MaxUint64, one, Event{}, api.ErrCount},
		{math.MaxUint64, one, one, api.ErrCount},
		{math.MaxUint64 - api.MaxCount + 1, top, Event{}, api.ErrCount},
	} {
		if e, err := Node(x.n, x.l, x.r); err != x.want || !isZero(e) {
			t.Error(x.n, x.l.Text(), x.r.Text(), e.Text(), err)
		}
	}
}

func TestNodeAtItsLimits(t *testing.T) {
	deep := parse(t, deepText(api.MaxDepth-1, "1"))
	e, err := Node(api.MaxCount-1, deep, Event{})
	if err != api.OK || e.Depth() != api.MaxDepth || e.Max() != api.MaxCount || e.Min() != api.MaxCount-1 {
		t.Error(e.Text(), err)
	}
	e, err = Node(api.MaxCount, Event{}, Event{})
	if err != api.OK || !Same(e, leaf(t, api.MaxCount)) || !e.IsLeaf() {
		t.Error(e.Text(), err)
	}
	e, err = Node(api.MaxCount-5, leaf(t, 5), leaf(t, 4))
	if err != api.OK || e.Text() != "(1048575,1,0)" {
		t.Error(e.Text(), err)
	}
}

// P2.2

func TestJoinExamples(t *testing.T) {
	for _, x := range []struct{ a, b, want string }{
		{"(1,2,0)", "(0,0,4)", "(3,0,1)"},
		{"3", "(1,2,0)", "3"},
		{"2", "(1,2,0)", "(2,1,0)"},
		{"(0,1,0)", "(0,0,1)", "1"},
		{"(0,(0,1,0),0)", "(0,0,2)", "(0,(0,1,0),2)"},
		{"(0,(0,1,0),0)", "(0,(0,0,1),0)", "(0,1,0)"},
		{"(0,(0,1,0),(0,0,1))", "(0,(0,0,1),(0,1,0))", "1"},
	} {
		a, b := parse(t, x.a), parse(t, x.b)
		if Join(a, b).Text() != x.want || Join(b, a).Text() != x.want {
			t.Error(x, Join(a, b).Text(), Join(b, a).Text())
		}
		if a.Text() != x.a || b.Text() != x.b {
			t.Error(x, "changed", a.Text(), b.Text())
		}
	}
}

func TestHeightsOfTwo(t *testing.T) {
	all, l := allHeights(), allEvents(t)
	for k, a := range l {
		for n, b := range l {
			leq := true
			var most heights
			for at := range most {
				leq = leq && all[k][at] <= all[n][at]
				most[at] = max(all[k][at], all[n][at])
			}
			if got := Leq(a, b); got != leq {
				t.Fatal(a.Text(), b.Text(), "Leq", got)
			}
			if got := Same(a, b); got != (k == n) {
				t.Fatal(a.Text(), b.Text(), "Same", got)
			}
			j := Join(a, b)
			if heightsOf(j) != most || j.Text() != ofHeights(t, most[:], 0).Text() || j.Max() != slices.Max(most[:]) {
				t.Fatal(a.Text(), b.Text(), "Join", j.Text())
			}
			checkForm(t, j)
		}
	}
}

func TestTwoOfUnlikeDepth(t *testing.T) {
	deep := parse(t, deepText(api.MaxDepth, "1"))
	flat := leaf(t, 1)
	if !Leq(deep, flat) || Leq(flat, deep) || Same(flat, deep) || !Same(Join(deep, flat), flat) {
		t.Error(deep.Text())
	}
	j := Join(deep, parse(t, "(0,1,0)"))
	if j.Depth() != api.MaxDepth || !Leq(deep, j) || !Leq(parse(t, "(0,1,0)"), j) || Leq(j, deep) {
		t.Error(j.Text())
	}
}

func TestJoinAtTheLimits(t *testing.T) {
	a := comb(t, api.MaxDepth, 0, api.MaxCount)
	b := comb(t, api.MaxDepth, api.MaxCount, 0)
	if a.Depth() != api.MaxDepth || Leq(a, b) || Leq(b, a) || Same(a, b) {
		t.Error(a.Depth())
	}
	if j := Join(a, b); !j.IsLeaf() || j.Base() != api.MaxCount {
		t.Error(j.Depth(), j.Base())
	}
	if j := Join(a, a); !Same(j, a) || j.Depth() != api.MaxDepth || j.Max() != api.MaxCount {
		t.Error(j.Depth(), j.Max())
	}
}

// P2.3

func TestTextAndBack(t *testing.T) {
	for _, e := range allEvents(t) {
		if !Same(parse(t, e.Text()), e) {
			t.Fatal(e.Text())
		}
	}
	wide := comb(t, api.MaxDepth, 7, 12)
	if !Same(parse(t, wide.Text()), wide) {
		t.Fatal("comb")
	}
	for _, s := range []string{"0", "10", "1048576", "(1048575,0,1)", "(0,1048576,0)", "(0,(0,0,1),(0,0,1))", deepText(api.MaxDepth, "1")} {
		parse(t, s)
	}
}

// TestParseOfAllShortTexts tells each text of few signs either as the one of
// a tree, or as none.
func TestParseOfAllShortTexts(t *testing.T) {
	const signs = "013(,)"
	const longest = 8
	found := 0
	var try func(p []byte)
	try = func(p []byte) {
		s := string(p)
		e, err := Parse(s)
		switch {
		case err == api.OK && e.Text() != s:
			t.Fatal(s, e.Text())
		case err == api.OK:
			checkForm(t, e)
			found++
		case err == api.ErrForm && isZero(e):
		case err == api.ErrCount && isZero(e) && isGreat(s):
		default:
			t.Fatal(s, e.Text(), err)
		}
		if len(p) == longest {
			return
		}
		for at := range len(signs) {
			try(append(p, signs[at]))
		}
	}
	try(make([]byte, 0, longest))
	if want := countShort(longest); found != want {
		t.Error(found, want)
	}
}

// isGreat says whether a text of digits alone is a number above the bound.
func isGreat(s string) bool {
	n, err := strconv.ParseUint(s, 10, 64)
	return err == nil && n > api.MaxCount && s[0] != '0'
}

// countShort counts the numbers and nodes of leaves that can be written in so
// few signs with the digits 0, 1 and 3; a node of nodes is longer.
func countShort(longest int) int {
	numbers := make([]int, longest+1) // those without 0, by their digits
	count := 1
	for digits := 1; digits <= longest; digits++ {
		numbers[digits] = 2
		for range digits - 1 {
			numbers[digits] *= 3
		}
	}
	for digits := 1; digits <= longest; digits++ {
		for _, n := range digitsOf(digits) {
			if n <= api.MaxCount {
				count++
			}
		}
	}
	// (base,0,n) and (base,n,0), the base 0 or not.
	for base := 1; base <= longest; base++ {
		for other := 1; base+other+5 <= longest; other++ {
			bases := numbers[base]
			if base == 1 {
				bases++
			}
			count += 2 * bases * numbers[other]
		}
	}
	return count
}

// digitsOf lists the numbers of so many digits 0, 1 and 3, without noughts
// ahead and without 0 itself.
func digitsOf(digits int) []uint64 {
	if digits == 1 {
		return []uint64{1, 3}
	}
	var l []uint64
	for _, n := range digitsOf(digits - 1) {
		l = append(l, n*10, n*10+1, n*10+3)
	}
	return l
}

func TestParseOfNoTree(t *testing.T) {
	for _, s := range []string{
		"", " ", "a", "-1", "+1", "01", "00", "1 ", " 1", "1\n", "1.0", "0x1", "1_0", "\x00", "\xff", "１",
		"(", ")", ",", "()", "(,,)", "(0)", "(0,1)", "(0,,1)", "(,0,1)", "(0,0,)", "(0,0,1", "0,0,1", "0,0,1)",
		"(0,0,1,0)", "(0,0,1,1,0)", "(0,1,1),1,0)", "(0, 0,1)", "(0;0;1)", "(0,0,1)x", "(0,0,1))", "(0,0,1),", "(0,0,1)(", "((0,0,1),0,1)",
		"(00,0,1)", "(0,00,1)", "(0,0,01)", "(-0,0,1)",
		"(0,0,0)", "(0,1,1)", "(0,1,2)", "(3,2,1)", "(1,0,0)", "(0,(1,0,1),1)", "(0,1,(1,0,1))", "(0,(1,0,1),(1,0,1))",
		"(0,(0,0,0),1)", "(0,1,(0,1,1))", "(0,0,(0,2,3))",
		"10000000000000000000", "18446744073709551616", "99999999999999999999", "(0,0,10000000000000000000)",
		"(10000000000000000000,0,1)", "(0,10000000000000000000,0)", "(0,0," + strings.Repeat("9", 100) + ")",
		"(0,9999999999999999999,9999999999999999999)", "(1048577,1,1)", "(1048577,0,0)", "(1048577,0,1", "01048577",
	} {
		if e, err := Parse(s); err != api.ErrForm || !isZero(e) {
			t.Errorf("%q: %s %d", s, e.Text(), err)
		}
	}
}

func TestParseOfGreatHeights(t *testing.T) {
	for _, s := range []string{
		"1048577", "9999999999999999999", "(1048576,0,1)", "(1048577,0,1)", "(0,1048577,0)", "(0,0,1048577)",
		"(1,1048576,0)", "(9999999999999999999,9999999999999999999,0)", "(524288,0,(524288,1,0))",
		"(0,0,(9223372036854775808,(9223372036854775808,0,1),0))", deepText(api.MaxDepth, "1048577"),
		"(1048576,(0,(0,0,1),0),0)", "(0,(0,1048577,0),1)",
	} {
		if e, err := Parse(s); err != api.ErrCount || !isZero(e) {
			t.Errorf("%q: %s %d", s, e.Text(), err)
		}
	}
}

func TestParseOfDeepTexts(t *testing.T) {
	for _, deep := range []int{api.MaxDepth + 1, 100, 1 << 16, 1 << 20} {
		left := strings.Repeat("(0,", deep) + "1" + strings.Repeat(",0)", deep)
		for s, want := range map[string]api.Errno{
			deepText(deep, "1"):       api.ErrDeep,
			left:                      api.ErrDeep,
			deepText(deep, "1048577"): api.ErrDeep,
			"(1048577," + deepText(deep, "1") + ",0)":    api.ErrDeep,
			"(0,1048577," + deepText(deep, "1") + ")":    api.ErrDeep,
			deepText(deep, "0"):                          api.ErrForm,
			deepText(deep, "01"):                         api.ErrForm,
			deepText(deep, "10000000000000000000"):       api.ErrForm,
			deepText(deep, "1") + ")":                    api.ErrForm,
			deepText(deep, "1") + " ":                    api.ErrForm,
			"(0," + deepText(deep, "1") + ",(0,1,2))":    api.ErrForm,
			"(0,(0,0,0)," + deepText(deep, "1") + ")":    api.ErrForm,
			"(0,1,(1," + left + ",0))":                   api.ErrForm,
			strings.Repeat("(", deep):                    api.ErrForm,
			strings.Repeat("(0,", deep):                  api.ErrForm,
			strings.Repeat("(0,0,", deep):                api.ErrForm,
			strings.Repeat("(0,0,", deep) + "1" + "))))": api.ErrForm,
		} {
			if e, err := Parse(s); err != want || !isZero(e) {
				t.Error(deep, s[:16], len(s), err, want)
			}
		}
	}
}
