package paper

import (
	"bytes"
	"math/rand"
	"slices"
	"strings"
	"testing"

	"kinfolk/api"
	"kinfolk/card"
	"kinfolk/wire"
)

// P10.1: the document's example, and by hand.
func TestCardNamed(t *testing.T) {
	ann := []card.Field{{Kind: card.Name, Value: "Ann"}}
	for want, l := range map[string][]card.Field{
		"\x00":                              nil,
		"\x01\x01\x00\x03Ann":               ann,
		"\x01\x06\x02ab\x03c d":             {{Kind: card.Group, Label: "ab", Value: "c d"}},
		"\x01\x04\x00\x02\xc3\xa9":          {{Kind: card.Address, Value: "é"}},
		"\x02\x01\x00\x03Ann\x02\x00\x0212": {{Kind: card.Phone, Value: "12"}, ann[0]},
	} {
		c := mustMake(t, l)
		if got := Card(c); string(got) != want {
			t.Fatalf("%v: %x", l, got)
		}
		if back, err := ReadCard([]byte(want)); err != api.OK || !card.Same(back, c) {
			t.Fatalf("%x: %d %v", want, err, back.Fields())
		}
	}
	if got := Card(card.Card{}); !bytes.Equal(got, []byte{0}) {
		t.Fatalf("%x", got)
	}
}

// P10.1: all cards, alone, and behind others.
func TestCardAll(t *testing.T) {
	for _, c := range cards(t) {
		want := tell(c.Fields())
		if !bytes.Equal(Card(c), want) {
			t.Fatalf("%v: %x", c.Fields(), Card(c))
		}
		if back, err := ReadCard(want); err != api.OK || !card.Same(back, c) {
			t.Fatalf("%x: %d", want, err)
		}
		for _, ahead := range []string{"", "a", "\xff\x80", strings.Repeat("x", 1000)} {
			p, whole := roomy([]byte(ahead))
			before := bytes.Clone(whole)
			got := PutCard(p, c)
			if string(got) != ahead+string(want) {
				t.Fatalf("%q: %x", ahead, got)
			}
			got = got[:cap(got)]
			for i := range got {
				got[i] = 0x77
			}
			if !bytes.Equal(whole, before) {
				t.Fatal("changed, or shared")
			}
		}
		if string(PutCard(nil, c)) != string(want) {
			t.Fatal("behind none")
		}
		one, other := Card(c), Card(c)
		one[0] = 99
		if !bytes.Equal(other, want) {
			t.Fatal("shared")
		}
	}
}

// P10.1: one behind the other.
func TestGetCardRow(t *testing.T) {
	p := []byte{7}
	all := cards(t)
	for _, c := range all {
		p = PutCard(p, c)
	}
	in := wire.Of(append(p, 0xff))
	in.Byte()
	for _, c := range all {
		if got := GetCard(in); !card.Same(got, c) || in.Err() != api.OK {
			t.Fatal(got.Fields(), in.Err())
		}
	}
	if in.Left() != 1 || GetCard(in).Len() != 0 || in.Err() != api.ErrForm || in.Left() != 1 {
		t.Fatal(in.Left(), in.Err())
	}
}

// mustRead holds GetCard and ReadCard of p against the model.
func mustRead(t *testing.T, p string) {
	t.Helper()
	m := &model{rest: p}
	want := m.card()
	in := wire.Of([]byte(p))
	got := GetCard(in)
	if !slices.Equal(got.Fields(), want) || in.Err() != m.err || in.Left() != len(m.rest) {
		t.Fatalf("%q: %v, %d, left %d; wanted %v, %d, %d", p, got.Fields(), in.Err(), in.Left(), want, m.err, len(m.rest))
	}
	m.end()
	if m.err != api.OK {
		want = nil
	}
	got, err := ReadCard([]byte(p))
	if !slices.Equal(got.Fields(), want) || err != m.err {
		t.Fatalf("%q: %v, %d; wanted %v, %d", p, got.Fields(), err, want, m.err)
	}
	if err == api.OK && string(Card(got)) != p {
		t.Fatalf("%q: %x", p, Card(got))
	}
}

// P10.1: what is met first.
func TestReadCardNamed(t *testing.T) {
	label, value := strings.Repeat("l", 13), strings.Repeat("v", 41)
	for _, x := range []struct {
		p    string
		want api.Errno
	}{
		{"", api.ErrForm}, {"\x80", api.ErrForm}, {"\x80\x00", api.ErrForm}, {"\x81\x00", api.ErrForm},
		{"\x00", api.OK}, {"\x00\x00", api.ErrForm}, {"\x01", api.ErrForm}, {"\x08", api.ErrForm},
		{"\x09", api.ErrFull}, {"\x09\x07", api.ErrFull}, {"\xff\xff\xff\xff\xff\xff\xff\xff\xff\x01", api.ErrFull}, {"\xff\xff\xff\xff\xff\xff\xff\xff\xff\x02", api.ErrForm}, {"\x80\x80\x80\x80\x10", api.ErrFull},
		{"\x80\x80\x80\x80\x80\x80\x80\x80\x80\x01", api.ErrFull},
		{"\x01\x01", api.ErrForm}, {"\x01\x01\x00", api.ErrForm}, {"\x01\x01\x00\x01", api.ErrForm}, {"\x01\x01\x00\x01a", api.OK}, {"\x01\x01\x00\x01a\x00", api.ErrForm},
		// A kind that there isn't is told behind the value.
		{"\x01\x07", api.ErrForm}, {"\x01\x07\x00\x01", api.ErrForm}, {"\x01\x07\x0d", api.ErrLong}, {"\x01\x07\x00\x29", api.ErrLong}, {"\x01\x07\x00\x01a", api.ErrArg}, {"\x01\x00\x00\x01a", api.ErrArg}, {"\x01\xff\x00\x01a", api.ErrArg},
		{"\x01\x01\x0c" + label[:12] + "\x01a", api.OK}, {"\x01\x01\x0d" + label + "\x01a", api.ErrLong}, {"\x01\x01\x0d", api.ErrLong},
		{"\x01\x01\x00\x28" + value[:40], api.OK}, {"\x01\x01\x00\x29" + value, api.ErrLong}, {"\x01\x01\x00\x29", api.ErrLong},
		{"\x01\x01\x01\x01\x29" + value, api.ErrLong}, {"\x01\x01\x01\x01\x01a", api.ErrText}, {"\x01\x01\x00\x00", api.ErrText}, {"\x01\x01\x00\x02 a", api.ErrText}, {"\x01\x01\x00\x01\xff", api.ErrText},
		{"\x01\x02\x00\x01a", api.ErrText}, {"\x01\x03\x00\x01a", api.ErrText}, {"\x01\x02\x00\x011", api.OK}, {"\x01\x03\x00\x05a@b.c", api.OK},
		// A field's own error is ahead of its place's.
		{"\x02\x02\x00\x011\x01\x00\x01a", api.ErrForm}, {"\x02\x02\x00\x011\x01\x00\x00", api.ErrText}, {"\x02\x02\x00\x011\x00\x00\x01a", api.ErrArg}, {"\x02\x02\x00\x011\x01\x00\x02a", api.ErrForm},
		{"\x02\x01\x00\x01a\x01\x00\x01a", api.ErrForm}, {"\x02\x01\x00\x01b\x01\x00\x01a", api.ErrForm}, {"\x02\x01\x01b\x01a\x01\x01a\x01b", api.ErrForm}, {"\x02\x01\x00\x01a\x01\x00\x01b", api.OK}, {"\x02\x01\x00\x02ab\x01\x00\x01a", api.ErrForm}, {"\x02\x01\x00\x01a\x01\x00\x02ab", api.OK},
		// What is wrong ahead is told ahead of what is wrong behind.
		{"\x03\x01\x00\x01b\x01\x00\x01a\x07", api.ErrForm}, {"\x02\x01\x00\x00\x01\x0d", api.ErrText}, {"\x03\x01\x00\x01b\x01\x00\x01a\x01\x0d", api.ErrForm}, {"\x02\x07\x00\x01a", api.ErrArg},
		{"\x01\x07\x00\x01a\x00", api.ErrArg},
	} {
		c, err := ReadCard([]byte(x.p))
		if err != x.want || err != api.OK && !card.Same(c, card.Card{}) {
			t.Errorf("%q: %d, wanted %d", x.p, err, x.want)
		}
		mustRead(t, x.p)
	}
}

// P10.1: all short bytes of some kinds.
func TestReadCardAll(t *testing.T) {
	given := []string{""}
	for at := 0; len(given[at]) < 6; at++ {
		for _, b := range []byte{0, 1, 2, 7, 9, 13, 41, '1', 0x80} {
			given = append(given, given[at]+string([]byte{b}))
		}
	}
	for _, p := range given {
		mustRead(t, p)
		mustRead(t, "\x02\x02\x00\x011"+p)
	}
}

// P10.1: cards that are cut, and of which one byte is another one.
func TestReadCardNearly(t *testing.T) {
	for _, c := range cards(t) {
		p := string(Card(c))
		for at := range len(p) {
			mustRead(t, p[:at])
			for _, b := range []byte{0, 1, 2, 3, 8, 9, 12, 13, 40, 41, 0x80, 0xff, p[at] + 1, p[at] - 1} {
				mustRead(t, p[:at]+string([]byte{b})+p[at+1:])
				mustRead(t, p[:at]+string([]byte{b})+p[at:])
			}
		}
		mustRead(t, p+"\x00")
	}
}

// P10.1: fields in any order, and any number of them.
func TestReadCardOrder(t *testing.T) {
	rnd := rand.New(rand.NewSource(11))
	all := append(few(), notes(5)...)
	all = append(all, card.Field{Kind: 7, Value: "a"}, card.Field{Kind: card.Note}, card.Field{Kind: card.Note, Label: "\x00", Value: "a"})
	for range 50000 {
		var l []card.Field
		for range rnd.Intn(11) {
			l = append(l, all[rnd.Intn(len(all))])
		}
		if rnd.Intn(2) == 0 {
			slices.SortFunc(l, func(a, b card.Field) int {
				if card.Less(a, b) {
					return -1
				}
				return 1
			})
			l = slices.Compact(l)
		}
		mustRead(t, string(tell(l)))
	}
	for n := range 300 {
		mustRead(t, string(tell(notes(n))))
	}
}

// An In that has an error keeps it, and nothing is read.
func TestGetCardFailed(t *testing.T) {
	p := Card(mustMake(t, few()))
	in := wire.Of(p)
	in.Fail(api.ErrState)
	if c := GetCard(in); c.Len() != 0 || in.Err() != api.ErrState || in.Left() != len(p) {
		t.Fatal(c.Fields(), in.Err())
	}
	in = wire.Of(append([]byte{9}, p...))
	if GetCard(in).Len() != 0 || GetCard(in).Len() != 0 || in.Err() != api.ErrFull || in.Left() != len(p) {
		t.Fatal(in.Err(), in.Left())
	}
	if c := GetCard(nil); c.Len() != 0 {
		t.Fatal(c.Fields())
	}
	if c, err := ReadCard(nil); c.Len() != 0 || err != api.ErrForm {
		t.Fatal(err)
	}
}

// What is handed in isn't changed and isn't kept.
func TestReadCardMemory(t *testing.T) {
	c := mustMake(t, few())
	p, whole := roomy(Card(c))
	before := bytes.Clone(whole)
	got, err := ReadCard(p)
	if err != api.OK || !bytes.Equal(whole, before) {
		t.Fatal(err)
	}
	clear(whole)
	if !card.Same(got, c) {
		t.Fatal("kept")
	}
}

// P10.3: all two cards.
func TestLess(t *testing.T) {
	all := append(cards(t), mustMake(t, []card.Field{{Kind: card.Name, Value: "B"}}), mustMake(t, []card.Field{{Kind: card.Name, Value: "日"}}))
	for _, a := range all {
		for _, b := range all {
			if Less(a, b) != (string(tell(a.Fields())) < string(tell(b.Fields()))) {
				t.Fatal(a.Fields(), b.Fields())
			}
		}
	}
	of := func(l ...card.Field) card.Card { return mustMake(t, l) }
	name := func(s string) card.Field { return card.Field{Kind: card.Name, Value: s} }
	row := []card.Card{
		{},
		of(name("B")), // its value has one byte, so it is ahead of Ann
		of(name("Ann")),
		of(name("Bob")),
		of(card.Field{Kind: card.Name, Label: "a", Value: "A"}),
		of(card.Field{Kind: card.Group, Value: "a"}),
		of(name("A"), name("B")), // two fields are behind any one
		of(name("A"), card.Field{Kind: card.Phone, Value: "1"}),
	}
	for i, a := range row {
		for j, b := range row {
			if Less(a, b) != (i < j) {
				t.Fatal(i, j)
			}
		}
	}
}
