package sibs

import (
	"bytes"
	"encoding/binary"
	"slices"
	"testing"

	"kinfolk/api"
	"kinfolk/card"
	"kinfolk/code"
	"kinfolk/event"
	"kinfolk/paper"
	"kinfolk/wire"
)

// heights are those of a tree, at four places.
type heights [4]uint64

func (h heights) leq(other heights) bool {
	for i := range h {
		if h[i] > other[i] {
			return false
		}
	}
	return true
}

func treeOf(t *testing.T, l ...uint64) event.Event {
	t.Helper()
	if len(l) == 1 {
		e, err := event.Leaf(l[0])
		if err != api.OK {
			t.Fatal(l, err)
		}
		return e
	}
	half := len(l) / 2
	e, err := event.Node(0, treeOf(t, l[:half]...), treeOf(t, l[half:]...))
	if err != api.OK {
		t.Fatal(l, err)
	}
	return e
}

func mustMake(t *testing.T, l ...card.Field) card.Card {
	t.Helper()
	c, err := card.Make(l)
	if err != api.OK {
		t.Fatal(l, err)
	}
	return c
}

func named(t *testing.T, name string) card.Card {
	return mustMake(t, card.Field{Kind: card.Name, Value: name})
}

// known is a version, and what the model knows of it.
type known struct {
	Version
	at heights
}

// bytes are the version's, by the document's words.
func (k known) bytes() string {
	tree := code.Event(k.Event)
	p := append(binary.AppendUvarint(nil, uint64(len(tree))), tree...)
	if k.Gone {
		return string(append(p, 1))
	}
	return string(append(append(p, 0), paper.Card(k.Card)...))
}

func (k known) right() bool { return !k.Gone || k.Card.Len() == 0 }

func (k known) under(other known) bool { return k.at.leq(other.at) && !other.at.leq(k.at) }

func aKnown(t *testing.T, c card.Card, isGone bool, h heights) known {
	t.Helper()
	return known{Version{Event: treeOf(t, h[:]...), Card: c, Gone: isGone}, h}
}

// few are versions of which some are Under others, some are of one tree, and
// some aren't Right.
func few(t *testing.T) []known {
	t.Helper()
	ann, none := named(t, "Ann"), card.Card{}
	return []known{
		aKnown(t, ann, false, heights{0, 1, 0, 0}),
		aKnown(t, ann, false, heights{0, 0, 1, 0}),
		aKnown(t, none, true, heights{0, 1, 1, 0}),
		aKnown(t, named(t, "Bob"), false, heights{0, 1, 1, 0}),
		aKnown(t, none, false, heights{0, 1, 1, 0}),
		aKnown(t, ann, true, heights{0, 2, 2, 2}), // isn't Right
		aKnown(t, ann, false, heights{0, 2, 0, 300}),
		aKnown(t, none, true, heights{1, 1, 1, 1}),
	}
}

// model answers what a set has to which these were added.
func model(l []known) []known {
	var kept []known
	for _, v := range l {
		if !v.right() {
			continue
		}
		over := func(w known) bool { return w.right() && v.under(w) }
		alike := func(w known) bool { return w.bytes() == v.bytes() }
		if !slices.ContainsFunc(l, over) && !slices.ContainsFunc(kept, alike) {
			kept = append(kept, v)
		}
	}
	slices.SortFunc(kept, func(a, b known) int { return bytes.Compare([]byte(a.bytes()), []byte(b.bytes())) })
	return kept
}

func subset[T any](l []T, bits int) []T {
	var some []T
	for i, v := range l {
		if bits>>i&1 == 1 {
			some = append(some, v)
		}
	}
	return some
}

func addAll(s Set, l []known) Set {
	for _, v := range l {
		s = s.Add(v.Version)
	}
	return s
}

// whole says whether two versions have all in common, and not their bytes
// alone.
func whole(a, b Version) bool {
	return event.Same(a.Event, b.Event) && card.Same(a.Card, b.Card) && a.Gone == b.Gone
}

// mustList asks a list of versions, by what it should have.
func mustList(t *testing.T, l []Version, want []known) {
	t.Helper()
	if !slices.EqualFunc(l, want, func(a Version, b known) bool { return whole(a, b.Version) }) {
		t.Fatalf("%v, wanted %v", l, want)
	}
}

// mustHave asks what a set tells, by the versions that it should have.
func mustHave(t *testing.T, s Set, want []known) {
	t.Helper()
	mustList(t, s.List(), want)
	var live []card.Card
	for _, v := range want {
		if !v.Gone {
			live = append(live, v.Card)
		}
	}
	if s.Len() != len(want) || !slices.EqualFunc(s.Live(), live, card.Same) {
		t.Fatalf("%d, %v; wanted %v", s.Len(), s.Live(), live)
	}
}

// readModel answers what bytes tell, by the document's words: the tree's own
// bytes and a card are read by layers 7 and 10.
func readModel(p []byte) (Version, api.Errno) {
	n, size := binary.Uvarint(p)
	switch {
	case size <= 0 || len(binary.AppendUvarint(nil, n)) != size:
		return Version{}, api.ErrForm
	case n > 4096:
		return Version{}, api.ErrLong
	case n > uint64(len(p)-size):
		return Version{}, api.ErrForm
	}
	tree, rest := p[size:size+int(n)], p[size+int(n):]
	e, err := code.ReadEvent(tree)
	if err != api.OK {
		return Version{}, err
	}
	if len(rest) == 0 || rest[0] > 1 || rest[0] == 1 && len(rest) > 1 {
		return Version{}, api.ErrForm
	}
	if rest[0] == 1 {
		return Version{Event: e, Gone: true}, api.OK
	}
	in := wire.Of(rest[1:])
	c := paper.GetCard(in)
	if err := in.End(); err != api.OK {
		return Version{}, err
	}
	return Version{Event: e, Card: c}, api.OK
}

// mustRead holds ReadVersion of p against the model.
func mustRead(t *testing.T, p []byte) {
	t.Helper()
	want, err := readModel(p)
	v, e := ReadVersion(p)
	if e != err || !whole(v, want) {
		t.Fatalf("%x: %v, %d; wanted %v, %d", p, v, e, want, err)
	}
	if e == api.OK && !bytes.Equal(v.Bytes(), p) {
		t.Fatalf("%x: %x", p, v.Bytes())
	}
}
