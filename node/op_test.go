package node

import (
	"bytes"
	"math"
	"math/rand"
	"slices"
	"strings"
	"testing"

	"kinfolk/api"
	"kinfolk/book"
	"kinfolk/card"
	"kinfolk/deed"
	"kinfolk/id"
	"kinfolk/sibs"
)

// mustRead holds Read of p against the model, and answers whether it is one.
func mustRead(t *testing.T, p []byte) bool {
	t.Helper()
	want, ok := opOf(p)
	o, err := Read(p)
	if (err == api.OK) != ok || !ok && err != api.ErrForm || !sameOp(o, want) {
		t.Fatalf("%.200x: %+v, %d; wanted %+v", p, o, err, want)
	}
	if !ok {
		return false
	}
	if again, err := o.Bytes(); err != api.OK || !bytes.Equal(again, p) {
		t.Fatalf("%x: %x, %d", p, again, err)
	}
	return true
}

// full answers an operation of a kind that has something of all; what its kind
// doesn't take is told nowhere.
func full(t *testing.T, kind int) Op {
	t.Helper()
	return Op{
		Kind: kind, Contact: 300, Card: named(t, "Ann"),
		Patch: card.Patch{Adds: []card.Field{{Kind: 200, Label: "a", Value: "b"}}, Drops: []card.Field{{Kind: 0}, {Kind: 0}}, Clear: []int{255, 0}},
		Event: parseEvent(t, "(0,1,0)"), Entries: []book.Entry{wrote(t, 9, "1", "Bob"), wrote(t, 8, "(3,0,1)")},
		Gift: deed.Gift{No: 5, From: 2, To: 400, Share: parseID(t, "(0,1)")}, To: 6, No: 1 << 63,
	}
}

// P16.5: each kind's bytes, written out.
func TestBytes(t *testing.T) {
	for _, x := range []struct {
		kind int
		want string
	}{
		{Put, "\x01\xac\x02\x01\x01\x00\x03Ann"},
		{Edit, "\x02\xac\x02\x10\x01\xc8\x01a\x01b\x02\x00\x00\x00\x00\x00\x00\x02\xff\x00"},
		{Delete, "\x03\xac\x02"},
		{Resolve, "\x04\xac\x02\x01\x01\x00\x03Ann"},
		{Give, "\x06\x07"},
		{Leave, "\x07"},
		{Done, "\x08\x80\x80\x80\x80\x80\x80\x80\x80\x80\x01"},
		{Parent, "\x0a\x07"},
		{Boot, "\x0b"},
	} {
		if p, err := full(t, x.kind).Bytes(); err != api.OK || string(p) != x.want {
			t.Errorf("%d: %x, %d", x.kind, p, err)
		}
	}
	for kind := range 12 {
		p, err := full(t, kind).Bytes()
		if want, _ := bytesOf(full(t, kind)); err != api.OK || !bytes.Equal(p, want) {
			t.Errorf("%d: %x, wanted %x", kind, p, want)
		}
		if mustRead(t, p) != (kind > 0) {
			t.Error(kind)
		}
	}
}

// P16.5: an event tree, entries, and a gift, behind one another.
func TestBytesOfNews(t *testing.T) {
	tree, gift := "\x01\x32", "\x05\x02\x90\x03\x01\x48"
	news := "\x02" + "\x09\x0a\x01\x90\x00\x01\x01\x00\x03Bob" + "\x08\x04\x02\x63\x90\x01"
	for kind, want := range map[int]string{Take: "\x05" + tree + news, Accept: "\x09" + gift + tree + news} {
		if p, err := full(t, kind).Bytes(); err != api.OK || string(p) != want {
			t.Errorf("%d: %x, %d", kind, p, err)
		}
	}
}

// P16.5: other kinds have a byte, and nothing more; none of them is read.
func TestOtherKinds(t *testing.T) {
	for _, kind := range []int{0, 12, 13, 255, 256, 257, 256 + Put, -1, -256 + Boot, 1 << 40, math.MinInt} {
		o := full(t, kind)
		o.Patch.Clear = []int{-1}
		if p, err := o.Bytes(); err != api.OK || !bytes.Equal(p, []byte{byte(kind)}) {
			t.Errorf("%d: %x %d", kind, p, err)
		}
	}
	for b := range 256 {
		if mustRead(t, []byte{byte(b)}) != (b == Leave || b == Boot) {
			t.Error(b)
		}
	}
}

// P16.5: the patch's error alone.
func TestBytesErrors(t *testing.T) {
	for _, x := range []struct {
		patch card.Patch
		want  api.Errno
	}{
		{card.Patch{}, api.OK}, {card.Patch{Clear: []int{-1}}, api.ErrArg}, {card.Patch{Clear: []int{256}}, api.ErrArg}, {card.Patch{Clear: make([]int, 256)}, api.ErrLong}, {card.Patch{Clear: make([]int, 255)}, api.OK},
		{card.Patch{Adds: []card.Field{{Label: strings.Repeat("a", 255), Value: strings.Repeat("a", 255)}}}, api.OK}, {card.Patch{Adds: []card.Field{{Label: strings.Repeat("a", 256)}}, Clear: []int{-1}}, api.ErrLong},
		{card.Patch{Drops: []card.Field{{Kind: -1}}}, api.ErrArg},
	} {
		for kind := range 12 {
			o := Op{Kind: kind, Patch: x.patch}
			want := x.want
			if kind != Edit {
				want = api.OK
			}
			if p, err := o.Bytes(); err != want || err != api.OK && p != nil {
				t.Errorf("%d %d: %x %d", kind, x.want, p, err)
			} else if err == api.OK && kind > 0 {
				mustRead(t, p)
			}
		}
	}
}

// P16.5: nodes' numbers, those too that there aren't.
func TestNodeNumbers(t *testing.T) {
	for _, x := range []struct {
		to   int
		want string
	}{
		{-1, "\x00"}, {0, "\x01"}, {126, "\x7f"}, {127, "\x80\x01"},
		{-2, "\xff\xff\xff\xff\xff\xff\xff\xff\xff\x01"}, {-3, "\xfe\xff\xff\xff\xff\xff\xff\xff\xff\x01"},
		{math.MaxInt, "\x80\x80\x80\x80\x80\x80\x80\x80\x80\x01"}, {math.MinInt, "\x81\x80\x80\x80\x80\x80\x80\x80\x80\x01"},
	} {
		for _, kind := range []int{Give, Parent} {
			o := Op{Kind: kind, To: x.to}
			p, err := o.Bytes()
			if err != api.OK || string(p) != string([]byte{byte(kind)})+x.want || !mustRead(t, p) {
				t.Errorf("%d: %x", x.to, p)
			}
			if got, err := Read(p); err != api.OK || !sameOp(got, o) {
				t.Errorf("%d: %+v", x.to, got)
			}
		}
	}
}

// P16.5: whatever was done is read as it was.
func TestReadBack(t *testing.T) {
	rnd := rand.New(rand.NewSource(165))
	_, l := bulky(t, 0, 2)
	long := Op{Kind: Take, Event: comb(t, 16384), Entries: l}
	shares := []id.ID{id.Zero(), id.One(), parseID(t, deep())}
	for round := range 2000 {
		o := full(t, 1+rnd.Intn(11))
		o.Contact = uint32(rnd.Uint64()) >> rnd.Intn(32)
		o.To = int(rnd.Uint64()) >> rnd.Intn(64)
		o.No = rnd.Uint64() >> rnd.Intn(64)
		o.Gift = deed.Gift{No: rnd.Uint64() >> rnd.Intn(64), From: rnd.Intn(1 << 31), To: rnd.Intn(15), Share: shares[rnd.Intn(3)]}
		o.Entries = o.Entries[:rnd.Intn(3)]
		if rnd.Intn(3) == 0 {
			o.Card, o.Patch, o.Event = card.Card{}, card.Patch{}, parseEvent(t, "0")
		}
		if round == 0 {
			o = long
		}
		p, err := o.Bytes()
		if err != api.OK || !mustRead(t, p) {
			t.Fatal(o)
		}
		got, _ := Read(p)
		again, err := got.Bytes()
		if err != api.OK || !bytes.Equal(again, p) {
			t.Fatal(o)
		}
	}
}

// P16.5: entries and gifts that layers 14 and 15 don't read are none.
func TestReadRefused(t *testing.T) {
	share := parseID(t, "(0,1)")
	for _, o := range []Op{
		{Kind: Accept, Gift: deed.Gift{From: -1, Share: share}}, {Kind: Accept, Gift: deed.Gift{To: 1 << 31, Share: share}},
		{Kind: Take, Entries: []book.Entry{{Version: sibs.Version{Event: comb(t, 16384), Gone: true}}}},
	} {
		p, err := o.Bytes()
		if err != api.OK || mustRead(t, p) {
			t.Error(o.Kind, err)
		}
	}
	for _, p := range []string{
		"", "\x01", "\x01\x05", "\x01\x80\x80\x80\x80\x10\x00", "\x01\x05\x09", "\x01\x05\x00\x00", "\x03", "\x03\x80", "\x03\x80\x00", "\x03\x05\x00", "\x02\x05\x02\x00\x00", "\x02\x05\x03\x00\x00\x00\x00", "\x02\x05\x04\x00\x00\x00",
		"\x05\x01\x90", "\x05\x01\x91\x00", "\x05\x02\x90\x00\x00", "\x06", "\x06\x80\x00", "\x07\x00", "\x08", "\x0b\x00", "\x0c", "\x00",
	} {
		if mustRead(t, []byte(p)) {
			t.Errorf("%x", p)
		}
	}
	for _, p := range []string{"\x01\xff\xff\xff\xff\x0f\x00", "\x03\xff\xff\xff\xff\x0f", "\x02\x05\x03\x00\x00\x00", "\x05\x01\x90\x00", "\x06\x00"} {
		if !mustRead(t, []byte(p)) {
			t.Errorf("%x", p)
		}
	}
	if o, err := Read(nil); err != api.ErrForm || !sameOp(o, Op{}) {
		t.Error(err)
	}
}

// P16.5: operations that are cut, and of which one byte is another one.
func TestReadNearly(t *testing.T) {
	for kind := 1; kind < 12; kind++ {
		p, _ := bytesOf(full(t, kind))
		for at := range p {
			mustRead(t, p[:at])
			for by := range 256 {
				mustRead(t, slices.Concat(p[:at], []byte{byte(by)}, p[at+1:]))
				mustRead(t, slices.Concat(p[:at], []byte{byte(by)}, p[at:]))
			}
		}
		mustRead(t, append(p, 0))
	}
}

// P16.5, P1: all short bytes of some kinds, and any bytes.
func TestReadAny(t *testing.T) {
	given := []string{""}
	for at := 0; len(given[at]) < 5; at++ {
		for _, b := range []byte{0, 1, 2, 3, 5, 6, 8, 9, 10, 0x90} {
			given = append(given, given[at]+string([]byte{b}))
		}
	}
	for _, p := range given {
		mustRead(t, []byte(p))
	}
	rnd := rand.New(rand.NewSource(166))
	for range 50000 {
		p := make([]byte, rnd.Intn(20))
		rnd.Read(p)
		if len(p) > 0 {
			p[0] %= 13
		}
		mustRead(t, p)
	}
}

// What is handed in isn't changed and isn't kept; answers are new memory.
func TestOpMemory(t *testing.T) {
	for kind := 1; kind < 12; kind++ {
		o := full(t, kind)
		want, _ := bytesOf(o)
		p, err := o.Bytes()
		if err != api.OK {
			t.Fatal(err)
		}
		roomy := append(p, bytes.Repeat([]byte{0xee}, 50)...)
		all := bytes.Clone(roomy)
		got, err := Read(roomy[:len(want)])
		if err != api.OK || !bytes.Equal(roomy, all) {
			t.Fatal("changed")
		}
		scrub(roomy, 0x77)
		other, _ := got.Bytes()
		scrub(other, 0x77)
		if again, _ := got.Bytes(); !bytes.Equal(again, want) {
			t.Fatal("kept")
		}
		scrub(o.Entries, book.Entry{})
		scrub(o.Patch.Adds, card.Field{})
		scrub(o.Patch.Clear, 7)
		if again, _ := got.Bytes(); !bytes.Equal(again, want) {
			t.Fatal("shared")
		}
		if !sameOp(o, Op{Kind: kind, Contact: o.Contact, Card: o.Card, Patch: o.Patch, Event: o.Event, Entries: o.Entries, Gift: o.Gift, To: o.To, No: o.No}) {
			t.Fatal("op")
		}
	}
}
