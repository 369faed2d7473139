package sibs

import (
	"bytes"
	"math/rand"
	"slices"
	"strings"
	"testing"

	"kinfolk/api"
	"kinfolk/card"
	"kinfolk/code"
	"kinfolk/event"
)

// P13.1: by hand.
func TestVersionNamed(t *testing.T) {
	ann := named(t, "Ann")
	for want, v := range map[string]Version{
		"\x01\x80\x00\x00":                    {},
		"\x01\x80\x01":                        {Gone: true},
		"\x01\x90\x00\x01\x01\x00\x03Ann":     {Event: treeOf(t, 1), Card: ann},
		"\x01\x12\x01":                        {Event: treeOf(t, 0, 1), Gone: true},      // 0 00 1 001
		"\x01\x32\x00\x01\x01\x00\x03Ann":     {Event: treeOf(t, 1, 0), Card: ann},       // 0 01 1 001
		"\x02\x61\x90\x00\x00":                {Event: treeOf(t, 1, 2)},                  // 0 11 0 0 001 1 001
		"\x02\x06\x40\x00\x01\x01\x00\x03Ann": {Event: treeOf(t, 0, 0, 1, 0), Card: ann}, // 0 00 0 01 1 001
	} {
		if got := v.Bytes(); string(got) != want {
			t.Errorf("%+v: %x", v, got)
		}
		mustRead(t, []byte(want))
		if got, err := ReadVersion([]byte(want)); err != api.OK || !whole(got, v) {
			t.Errorf("%x: %+v, %d", want, got, err)
		}
	}
}

// P13.1: one that is Gone has no fields.
func TestRight(t *testing.T) {
	e := treeOf(t, 0, 3)
	for _, c := range []card.Card{{}, named(t, "Ann"), mustMake(t, card.Field{Kind: card.Note, Label: "a", Value: "b"}, card.Field{Kind: card.Phone, Value: "1"})} {
		for _, isGone := range []bool{false, true} {
			for _, tree := range []event.Event{{}, e} {
				v := Version{Event: tree, Card: c, Gone: isGone}
				if v.Right() != (!isGone || c.Len() == 0) {
					t.Fatalf("%+v", v)
				}
			}
		}
	}
	// Its card isn't written; so it has the bytes of one that is Right.
	bad, good := Version{Event: e, Card: named(t, "Ann"), Gone: true}, Version{Event: e, Gone: true}
	if !bytes.Equal(bad.Bytes(), good.Bytes()) || !Same(bad, good) || Less(bad, good) || Less(good, bad) {
		t.Fatalf("%x", bad.Bytes())
	}
}

// some are versions of all small trees, with a card or without.
func some(t *testing.T) []known {
	t.Helper()
	var l []known
	cards := []card.Card{{}, named(t, "Ann"), named(t, "Bob"), mustMake(t, card.Field{Kind: card.Name, Value: "Ann"}, card.Field{Kind: card.Phone, Value: "1"})}
	for all := range 256 {
		h := heights{uint64(all & 3), uint64(all >> 2 & 3), uint64(all >> 4 & 3), uint64(all >> 6)}
		l = append(l, aKnown(t, cards[all%4], false, h))
		if all%3 == 0 {
			l = append(l, aKnown(t, card.Card{}, true, h))
		}
		if all%16 == 0 {
			l = append(l, aKnown(t, cards[(all+1)%4], false, h))
		}
	}
	return append(l, aKnown(t, cards[1], false, heights{5, api.MaxCount, 0, 70}), aKnown(t, cards[1], true, heights{5, 1, 0, 70}))
}

// P13.1: all two of some.
func TestTwoVersions(t *testing.T) {
	l := some(t)
	for _, a := range l {
		if !bytes.Equal(a.Bytes(), []byte(a.bytes())) || a.Right() != a.right() {
			t.Fatalf("%+v: %x, wanted %x", a, a.Bytes(), a.bytes())
		}
		for _, b := range l {
			if Under(a.Version, b.Version) != a.under(b) {
				t.Fatalf("%+v under %+v", a, b)
			}
			p, q := a.bytes(), b.bytes()
			if Same(a.Version, b.Version) != (p == q) || Less(a.Version, b.Version) != (p < q) {
				t.Fatalf("%+v, %+v", a, b)
			}
		}
	}
}

// P13.1: each of these is less than all behind it, and than no other.
func TestLessRow(t *testing.T) {
	one, two := treeOf(t, 1), treeOf(t, 0, 0, 0, 1)
	if len(code.Event(two)) != 2 {
		t.Fatal("tree")
	}
	row := []Version{
		{},
		{Card: named(t, "Ann")},
		{Gone: true},
		{Event: one},
		{Event: one, Card: named(t, "B")},
		{Event: one, Card: named(t, "Ann")}, // its value is longer
		{Event: one, Card: mustMake(t, card.Field{Kind: card.Group, Value: "a"})},
		{Event: one, Gone: true},
		{Event: two}, // its tree has a byte more
		{Event: two, Gone: true},
	}
	for i, a := range row {
		for j, b := range row {
			if Less(a, b) != (i < j) || Same(a, b) != (i == j) {
				t.Fatal(i, j)
			}
		}
	}
}

// P13.1: what is met first.
func TestReadVersionErrors(t *testing.T) {
	above := code.Event(treeOf(t, api.MaxCount))
	// A leaf whose last but one bits say more than api.MaxCount.
	above[len(above)-1] |= 0x10
	deep := strings.Repeat("\x00", 7)
	long := strings.Repeat("\x00", 4096)
	text := func(s string) string { return string([]byte{byte(len(s))}) + s }
	for _, x := range []struct {
		p    string
		want api.Errno
	}{
		{"", api.ErrForm}, {"\x80", api.ErrForm}, {"\x81\x00", api.ErrForm}, {"\x00", api.ErrForm}, {"\x00\x00\x00", api.ErrForm},
		{"\x01", api.ErrForm}, {"\x01\x80", api.ErrForm}, {"\x02\x80", api.ErrForm}, {"\x02\x80\x00\x00", api.ErrForm},
		{"\x01\x80\x00\x00", api.OK}, {"\x01\x80\x01", api.OK}, {"\x01\x80\x02", api.ErrForm}, {"\x01\x80\xff", api.ErrForm}, {"\x01\x80\x02\x09", api.ErrForm},
		{"\x01\x80\x00", api.ErrForm}, {"\x01\x80\x01\x00", api.ErrForm}, {"\x01\x80\x00\x00\x00", api.ErrForm},
		{"\x01\x81\x01", api.ErrForm}, {"\x01\x00\x01", api.ErrForm},
		// The tree's own error is ahead of all behind it.
		{text(string(above)), api.ErrCount}, {text(string(above)) + "\x02", api.ErrCount}, {text(string(above)) + "\x00\x09", api.ErrCount},
		{text(deep) + "\x01", api.ErrDeep}, {text(deep), api.ErrDeep}, {text(deep) + "\x09", api.ErrDeep},
		// And the card's.
		{"\x01\x80\x00\x09", api.ErrFull}, {"\x01\x80\x02\x09", api.ErrForm}, {"\x01\x80\x00\x01\x07\x00\x01a", api.ErrArg}, {"\x01\x80\x00\x01\x07\x00\x01a\x00", api.ErrArg}, {"\x01\x80\x00\x01\x01\x0d", api.ErrLong},
		{"\x01\x80\x00\x01\x01\x00\x00", api.ErrText}, {"\x01\x80\x00\x02\x01\x00\x01b\x01\x00\x01a", api.ErrForm},
		// How long a tree may be is told ahead of its not being there.
		{"\x80\x20", api.ErrForm}, {"\x81\x20", api.ErrLong}, {"\x80\x20" + long, api.ErrDeep}, {"\x80\x20" + long + "\x02", api.ErrDeep}, {"\x81\x20" + long + "\x00", api.ErrLong}, {"\xff\xff\xff\xff\xff\xff\xff\xff\xff\x01", api.ErrLong},
		{"\xff\xff\xff\xff\xff\xff\xff\xff\xff\x02", api.ErrForm}, {"\x80\x80\x80\x80\x10", api.ErrLong},
	} {
		if v, err := ReadVersion([]byte(x.p)); err != x.want || err != api.OK && !whole(v, Version{}) {
			t.Errorf("%.40x: %d, wanted %d", x.p, err, x.want)
		}
		mustRead(t, []byte(x.p))
	}
	if v, err := ReadVersion(nil); err != api.ErrForm || !whole(v, Version{}) {
		t.Error(err)
	}
}

// comb answers a tree of so many halves (0,0,1).
func comb(t *testing.T, many int, first event.Event) event.Event {
	t.Helper()
	if many == 1 {
		return first
	}
	e, err := event.Node(0, comb(t, many/2, first), comb(t, many-many/2, treeOf(t, 0, 1)))
	if err != api.OK {
		t.Fatal(err)
	}
	return e
}

// P13.1: trees of the most bytes, and of one more.
func TestReadVersionLong(t *testing.T) {
	for _, x := range []struct {
		first event.Event
		size  int
		want  api.Errno
	}{
		{treeOf(t, 0, 1), 4096, api.OK},
		{treeOf(t, 0, 5), 4097, api.ErrLong},
	} {
		e := comb(t, 3277, x.first)
		if got := len(code.Event(e)); got != x.size {
			t.Fatal(got)
		}
		for _, v := range []Version{{Event: e, Gone: true}, {Event: e, Card: named(t, "Ann")}} {
			p := v.Bytes()
			got, err := ReadVersion(p)
			if err != x.want || err == api.OK && !whole(got, v) {
				t.Fatal(x.size, err)
			}
			mustRead(t, p)
		}
	}
}

// P13.1: all short bytes of some kinds.
func TestReadVersionAll(t *testing.T) {
	given := []string{""}
	for at := 0; len(given[at]) < 6; at++ {
		for _, b := range []byte{0, 1, 2, 9, 0x12, 0x80, 0x90, 'a'} {
			given = append(given, given[at]+string([]byte{b}))
		}
	}
	for _, p := range given {
		mustRead(t, []byte(p))
		mustRead(t, []byte("\x01\x80\x00\x01\x01"+p))
	}
}

// P13.1: versions that are cut, and of which one byte is another one.
func TestReadVersionNearly(t *testing.T) {
	for _, k := range some(t) {
		p := k.Bytes()
		mustRead(t, p)
		for at := range p {
			mustRead(t, p[:at])
			for _, b := range []byte{0, 1, 2, 3, 9, 0x80, 0xff, p[at] + 1, p[at] - 1} {
				mustRead(t, slices.Concat(p[:at], []byte{b}, p[at+1:]))
				mustRead(t, slices.Concat(p[:at], []byte{b}, p[at:]))
			}
		}
		mustRead(t, append(p, 0))
	}
}

// P1, P2: any bytes, and the same again.
func TestReadVersionAny(t *testing.T) {
	rnd := rand.New(rand.NewSource(131))
	for range 50000 {
		p := make([]byte, rnd.Intn(20))
		rnd.Read(p)
		if len(p) > 0 && rnd.Intn(4) > 0 {
			p[0] = byte(rnd.Intn(6))
		}
		mustRead(t, p)
		mustRead(t, p)
	}
}

// What is handed in isn't changed and isn't kept; answers are new memory.
func TestVersionMemory(t *testing.T) {
	for _, k := range some(t) {
		if !k.right() {
			continue
		}
		before := k.Bytes()
		whole := append(k.Bytes(), bytes.Repeat([]byte{0x55}, 50)...)
		all := bytes.Clone(whole)
		v, err := ReadVersion(whole[:len(before)])
		if err != api.OK || !bytes.Equal(whole, all) {
			t.Fatal(err)
		}
		clear(whole)
		got, again := v.Bytes(), v.Bytes()
		if !bytes.Equal(got, before) {
			t.Fatal("kept")
		}
		got = got[:cap(got)]
		clear(got)
		if !bytes.Equal(again, before) || !bytes.Equal(v.Bytes(), before) {
			t.Fatal("shared")
		}
	}
}
