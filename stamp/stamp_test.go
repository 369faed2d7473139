package stamp

import (
	"strings"
	"testing"

	"kinfolk/api"
	"kinfolk/event"
	"kinfolk/id"
)

func parseID(t *testing.T, s string) id.ID {
	t.Helper()
	i, err := id.Parse(s)
	if err != api.OK {
		t.Fatal(s, err)
	}
	return i
}

func parseEvent(t *testing.T, s string) event.Event {
	t.Helper()
	e, err := event.Parse(s)
	if err != api.OK {
		t.Fatal(s, err)
	}
	return e
}

// parse answers the stamp of a text as Text tells it.
func parse(t *testing.T, s string) Stamp {
	t.Helper()
	i, e, ok := strings.Cut(strings.TrimSuffix(strings.TrimPrefix(s, "("), ")"), ";")
	x := Stamp{ID: parseID(t, i), Event: parseEvent(t, e)}
	if !ok || x.Text() != s {
		t.Fatal(s, x.Text())
	}
	return x
}

func TestSeed(t *testing.T) {
	if s := Seed().Text(); s != "(1;0)" {
		t.Error(s)
	}
	if s := (Stamp{}).Text(); s != "(0;0)" {
		t.Error(s)
	}
}

func TestForkSplitsTheShareAlone(t *testing.T) {
	for _, c := range []struct{ s, a, b string }{
		{"(1;0)", "((1,0);0)", "((0,1);0)"},
		{"(0;3)", "(0;3)", "(0;3)"},
		{"((0,1);(1,0,2))", "((0,(1,0));(1,0,2))", "((0,(0,1));(1,0,2))"},
		{"((1,(0,1));(0,(0,1,0),2))", "((1,0);(0,(0,1,0),2))", "((0,(0,1));(0,(0,1,0),2))"},
	} {
		a, b, err := parse(t, c.s).Fork()
		if err != api.OK || a.Text() != c.a || b.Text() != c.b {
			t.Error(c.s, a.Text(), b.Text(), err)
		}
	}
}

func TestForkAtTheGreatestDepth(t *testing.T) {
	s := Seed()
	s.Event = parseEvent(t, "(2,0,1)")
	for range api.MaxDepth {
		a, b, err := s.Fork()
		if err != api.OK || !event.Same(a.Event, s.Event) || !event.Same(b.Event, s.Event) {
			t.Fatal(s.Text(), err)
		}
		s = b
	}
	a, b, err := s.Fork()
	if err != api.ErrDeep || a != (Stamp{}) || b != (Stamp{}) {
		t.Error(a.Text(), b.Text(), err)
	}
}

func TestPeek(t *testing.T) {
	for _, c := range []struct{ s, p string }{
		{"(1;0)", "(0;0)"},
		{"((1,(0,1));(1,(0,2,0),3))", "(0;(1,(0,2,0),3))"},
		{"(0;5)", "(0;5)"},
	} {
		if p := parse(t, c.s).Peek(); p.Text() != c.p {
			t.Error(c.s, p.Text())
		}
	}
}

func TestJoin(t *testing.T) {
	for _, c := range []struct{ a, b, j string }{
		{"((1,0);(1,2,0))", "((0,1);(0,0,4))", "(1;(3,0,1))"},
		{"((0,(1,0));3)", "(0;(0,0,5))", "((0,(1,0));(3,0,2))"},
		{"(0;1)", "(0;2)", "(0;2)"},
		{"(((0,1),0);(0,0,1))", "((0,(1,0));(0,1,0))", "(((0,1),(1,0));1)"},
	} {
		a, b := parse(t, c.a), parse(t, c.b)
		if j, err := Join(a, b); err != api.OK || j.Text() != c.j {
			t.Error(c.a, c.b, j.Text(), err)
		}
		if j, err := Join(b, a); err != api.OK || j.Text() != c.j {
			t.Error(c.b, c.a, j.Text(), err)
		}
	}
}

func TestJoinOfWhatOverlaps(t *testing.T) {
	for _, c := range []struct{ a, b string }{
		{"(1;0)", "(1;0)"},
		{"(1;(0,1,0))", "((0,(0,1));2)"},
		{"((1,(0,1));0)", "((0,1);0)"},
	} {
		if j, err := Join(parse(t, c.a), parse(t, c.b)); err != api.ErrOverlap || j != (Stamp{}) {
			t.Error(c.a, c.b, j.Text(), err)
		}
	}
}

func TestLeqLooksAtTheTreesAlone(t *testing.T) {
	for _, c := range []struct {
		a, b string
		leq  bool
	}{
		{"(1;1)", "(0;1)", true},
		{"(0;1)", "(1;1)", true},
		{"((1,0);(0,1,0))", "((0,1);(0,0,1))", false},
		{"((1,0);(0,1,0))", "((0,1);(1,0,1))", true},
		{"((0,1);(1,0,1))", "((1,0);(0,1,0))", false},
		{"((1,0);(0,1,0))", "((1,0);(0,0,1))", false},
	} {
		if Leq(parse(t, c.a), parse(t, c.b)) != c.leq {
			t.Error(c)
		}
	}
}

func TestSameLooksAtBothParts(t *testing.T) {
	all := []string{"(0;0)", "(1;0)", "(1;1)", "((1,0);1)", "((0,1);1)", "((1,0);(0,1,0))", "((1,0);(0,0,1))"}
	for _, a := range all {
		for _, b := range all {
			if Same(parse(t, a), parse(t, b)) != (a == b) {
				t.Error(a, b)
			}
		}
	}
}
