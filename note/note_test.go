package note

import (
	"bytes"
	"math"
	"math/rand"
	"slices"
	"strings"
	"testing"

	"kinfolk/api"
	"kinfolk/book"
	"kinfolk/card"
	"kinfolk/deed"
	"kinfolk/id"
	"kinfolk/sibs"
)

// P17.2: the document's example.
func TestNamed(t *testing.T) {
	n := Note{Kind: Ask, From: 1}
	p, err := n.Bytes()
	if err != api.OK || !bytes.Equal(p, framed([]byte{5, 1, 0})) || !bytes.HasPrefix(p, []byte{3, 0, 0, 0}) || len(p) != 11 {
		t.Fatalf("%x %d", p, err)
	}
	if got, err := Read(p); err != api.OK || !sameNote(got, n) {
		t.Fatal(got, err)
	}
}

// P17.1: what kinds are called.
func TestKindName(t *testing.T) {
	names := map[int]string{1: "hello", 2: "digest", 3: "batch", 4: "ack", 5: "ask", 6: "offer", 7: "taken"}
	for _, kind := range []int{-1 << 63, -1, 0, 1, 2, 3, 4, 5, 6, 7, 8, 256, 257, 1<<63 - 1} {
		if got := KindName(kind); got != names[kind] {
			t.Error(kind, got)
		}
	}
	if Hello != 1 || Digest != 2 || Batch != 3 || Ack != 4 || Ask != 5 || Offer != 6 || Taken != 7 {
		t.Error("kinds")
	}
}

// full answers a note of a kind that is Right, and of which nothing that its
// kind has is zero.
func full(t *testing.T, kind int) Note {
	t.Helper()
	n, _ := bare(Note{
		Kind: kind, From: 2, To: 3, Session: 300, Seq: 200, Last: true, Event: parseEvent(t, "(1,0,1)"),
		Entries: []book.Entry{wrote(t, 300, "1", "Ann"), wrote(t, 9, "(0,0,2)"), wrote(t, 9, "0", "Bob", "Eve")},
		Gift:    deed.Gift{No: 1<<62 - 1, From: 2, To: 3, Share: parseID(t, "(0,1)")}, No: 1<<64 - 1,
	})
	return n
}

// P17.2: each kind's bytes, written out.
func TestBytes(t *testing.T) {
	tree := "\x02\x61\x90" // (1,0,1)
	ann := "\xac\x02\x0a\x01\x90\x00\x01\x01\x00\x03Ann"
	two := "\x09\x03\x01\x14\x01" // Gone, of (0,0,2)
	both := "\x09\x10\x01\x80\x00\x02\x01\x00\x03Bob\x01\x00\x03Eve"
	news := "\x03" + ann + two + both
	for kind, want := range map[int]string{
		Hello:  "\x01\x02\x03\xac\x02" + tree,
		Digest: "\x02\x02\x03\xac\x02" + tree,
		Batch:  "\x03\x02\x03\xac\x02\xc8\x01" + tree + news,
		Ack:    "\x04\x02\x03\xac\x02\xc8",
		Ask:    "\x05\x02\x03",
		Offer:  "\x06\x02\x03\xff\xff\xff\xff\xff\xff\xff\xff\x3f\x02\x03\x01\x48" + tree + news,
		Taken:  "\x07\x02\x03\xff\xff\xff\xff\xff\xff\xff\xff\xff\x01",
	} {
		n := full(t, kind)
		if p, err := n.Bytes(); err != api.OK || !bytes.Equal(p, framed([]byte(want))) {
			t.Errorf("%d: %x, %d; wanted %x", kind, p, err, want)
		}
		if !mustTell(t, n) || mustRead(t, framed([]byte(want))) != api.OK {
			t.Error(kind)
		}
	}
	// Of a batch that isn't the last one, and has nothing.
	if p, err := (Note{Kind: Batch, To: 11}).Bytes(); err != api.OK || !bytes.Equal(p, framed([]byte("\x03\x00\x0b\x00\x00\x00\x01\x80\x00"))) {
		t.Errorf("%x", p)
	}
}

// P17.1: what a kind hasn't is zero, each part for itself.
func TestParts(t *testing.T) {
	right := 0
	for kind := -1; kind < 10; kind++ {
		for _, set := range []func(*Note){
			func(n *Note) {},
			func(n *Note) { n.Session = 1 },
			func(n *Note) { n.Seq = 1 },
			func(n *Note) { n.Last = true },
			func(n *Note) { n.Event = parseEvent(t, "1") },
			func(n *Note) { n.Event = parseEvent(t, "(0,0,1)") },
			func(n *Note) { n.Entries = []book.Entry{{}} },
			func(n *Note) { n.Entries = []book.Entry{} },
			func(n *Note) { n.Gift.No = 1 },
			func(n *Note) { n.Gift.From = 1 },
			func(n *Note) { n.Gift.To = 1 },
			func(n *Note) { n.Gift.Share = id.One() },
			func(n *Note) { n.Gift.Share = parseID(t, "(1,0)") },
			func(n *Note) { n.Gift = deed.Gift{No: 1, From: 2, To: 3, Share: id.One()} },
			func(n *Note) { n.No = 1 },
		} {
			for _, n := range []Note{{Kind: kind, From: 2, To: 3}, full(t, kind)} {
				set(&n)
				if mustTell(t, n) {
					right++
				}
			}
		}
	}
	if right < 50 {
		t.Error(right)
	}
}

// P17.1: all kinds, from and to whom it may be.
func TestNodes(t *testing.T) {
	nodes := []int{math.MinInt, -256, -1, 0, 1, 2, 3, 10, 11, 12, 255, 256, 258, math.MaxInt}
	for kind := -1; kind < 9; kind++ {
		for _, from := range nodes {
			for _, to := range nodes {
				n := full(t, kind)
				n.From, n.To = from, to
				mustTell(t, n)
				n.Gift.From, n.Gift.To = from, to
				mustTell(t, n)
			}
		}
	}
	for _, kind := range []int{math.MinInt, 256, 257, 261, -251, math.MaxInt} {
		if mustTell(t, Note{Kind: kind, From: 1}) {
			t.Error(kind)
		}
	}
}

// P17.1: the least and the greatest Seq.
func TestSeq(t *testing.T) {
	for _, kind := range []int{Batch, Ack} {
		for seq, want := range map[int]bool{math.MinInt: false, -256: false, -1: false, 0: true, 1: true, 255: true, 256: false, 257: false, math.MaxInt: false} {
			n := full(t, kind)
			n.Seq = seq
			if mustTell(t, n) != want {
				t.Error(kind, seq)
			}
		}
	}
}

// P17.1: how many entries there may be, and which.
func TestEntries(t *testing.T) {
	ann := named(t, "Ann")
	for _, kind := range []int{Batch, Offer} {
		for many := range 12 {
			n := full(t, kind)
			n.Entries = slices.Repeat([]book.Entry{wrote(t, 5, "1", "Ann")}, many)
			if mustTell(t, n) != (many <= api.MaxBatch || kind == Offer) {
				t.Error(kind, many)
			}
		}
		for _, x := range []struct {
			bad  book.Entry
			want bool
		}{
			{wrote(t, 5, "(1,0,1)", "Ann"), true}, {wrote(t, 5, "(1,1,0)", "Ann"), false}, {wrote(t, 5, "2"), false}, {wrote(t, 1<<32-1, "(0,0,2)"), true}, {wrote(t, 0, "(0,0,3)"), false},
			{book.Entry{ID: 5, Version: sibs.Version{Card: ann, Gone: true}}, false}, {book.Entry{}, true}, {book.Entry{ID: 5, Version: sibs.Version{Gone: true}}, true},
		} {
			for at := range 4 {
				n := full(t, kind)
				n.Entries = slices.Insert(n.Entries, at, x.bad)
				if mustTell(t, n) != x.want {
					t.Errorf("%d: %+v at %d", kind, x.bad, at)
				}
			}
		}
	}
}

// P17.1: gifts that there may be.
func TestGift(t *testing.T) {
	share := parseID(t, "(0,1)")
	for _, x := range []struct {
		gift deed.Gift
		want bool
	}{
		{deed.Gift{No: 1, From: 2, To: 3, Share: share}, true}, {deed.Gift{No: 1<<62 - 1, From: 2, To: 3, Share: share}, true}, {deed.Gift{No: 1 << 62, From: 2, To: 3, Share: share}, false}, {deed.Gift{From: 2, To: 3, Share: share}, false},
		{deed.Gift{No: 1, From: 3, To: 2, Share: share}, false}, {deed.Gift{No: 1, From: 2, To: 4, Share: share}, false}, {deed.Gift{No: 1, From: 1, To: 3, Share: share}, false},
		{deed.Gift{No: 1, From: 2, To: 3}, false}, {deed.Gift{No: 1, From: 2, To: 3, Share: id.One()}, true}, {deed.Gift{}, false},
	} {
		n := full(t, Offer)
		n.Gift = x.gift
		if mustTell(t, n) != x.want {
			t.Errorf("%+v", x.gift)
		}
	}
}

// bulky answers an Offer of a frame of about so many bytes, and how far the
// last entry's contact, in bytes, is from its greatest.
func bulky(t *testing.T, size int) Note {
	t.Helper()
	n := Note{Kind: Offer, From: 2, To: 3, Gift: deed.Gift{No: 1, From: 2, To: 3, Share: id.One()}}
	value := strings.Repeat("a", 40)
	c, err := card.Make([]card.Field{{Kind: card.Name, Value: value}})
	if err != api.OK {
		t.Fatal(err)
	}
	// An entry of a contact below 128 has 49 bytes; of greater ones up to 4
	// more.
	for len(n.Entries) < (size-100)/49 {
		n.Entries = append(n.Entries, book.Entry{ID: 1, Version: sibs.Version{Card: c}})
	}
	for k := 0; ; k++ {
		lack := size - len(framed(bodyOf(n)))
		if lack == 0 {
			return n
		}
		n.Entries[k].ID = []uint32{1, 128, 1 << 14, 1 << 21, 1 << 28}[min(lack, 4)]
	}
}

// P17.2: frames of the most bytes, and of one more.
func TestLong(t *testing.T) {
	for _, x := range []struct {
		more int
		want api.Errno
	}{{-9, api.OK}, {-8, api.OK}, {-1, api.OK}, {0, api.OK}, {1, api.ErrLong}, {8, api.ErrLong}, {9, api.ErrLong}, {5000, api.ErrLong}} {
		n := bulky(t, api.MaxFrame+x.more)
		p, err := n.Bytes()
		if err != x.want || err != api.OK && p != nil || err == api.OK && len(p) != api.MaxFrame+x.more {
			t.Fatal(x.more, len(p), err)
		}
		if err == api.OK {
			if got, err := Read(p); err != api.OK || !sameNote(got, n) {
				t.Fatal(x.more, err)
			}
		}
		// One that isn't Right is told first.
		n.No = 1
		if p, err := n.Bytes(); err != api.ErrArg || p != nil {
			t.Fatal(err)
		}
	}
	// What the frame tells is layer 6's.
	n := bulky(t, api.MaxFrame+9)
	if got, err := Read(framed(bodyOf(n))); err != api.ErrLong || !sameNote(got, Note{}) {
		t.Fatal(err)
	}
}

// P17.2: layer 6's error first; then what is left behind, or is no note's.
func TestReadErrors(t *testing.T) {
	for kind := 1; kind <= 7; kind++ {
		p := framed(bodyOf(full(t, kind)))
		for at := range p {
			if err := mustRead(t, p[:at]); err != api.ErrForm {
				t.Fatal(kind, at, err)
			}
			for _, by := range []byte{1, 0x80, 0xff} {
				turned := bytes.Clone(p)
				turned[at] ^= by
				err := mustRead(t, turned)
				if err == api.OK || at >= 4 && err != api.ErrSum {
					t.Fatal(kind, at, err)
				}
			}
		}
		for _, behind := range [][]byte{{0}, p, {5, 1, 0}} {
			if err := mustRead(t, slices.Concat(p, behind)); err != api.ErrForm {
				t.Fatal(kind, err)
			}
		}
		turned := append(bytes.Clone(p), 0)
		turned[7] ^= 1
		if err := mustRead(t, turned); err != api.ErrSum {
			t.Fatal(kind, err)
		}
	}
	for _, x := range []struct {
		p    []byte
		want api.Errno
	}{
		{nil, api.ErrForm}, {[]byte{5, 1, 0}, api.ErrForm}, {framed(nil), api.ErrForm}, {framed([]byte{5}), api.ErrForm}, {framed([]byte{5, 1}), api.ErrForm}, {framed([]byte{5, 1, 0, 0}), api.ErrForm},
		{[]byte{1, 0, 16, 0, 0, 0, 0, 0}, api.ErrLong}, {[]byte{0, 0, 16, 0, 0, 0, 0, 0}, api.ErrForm}, {make([]byte, 8), api.ErrSum},
		{framed([]byte{5, 1, 1}), api.ErrForm}, {framed([]byte{5, 12, 1}), api.ErrForm}, {framed([]byte{5, 1, 12}), api.ErrForm}, {framed([]byte{0, 1, 0}), api.ErrForm}, {framed([]byte{8, 1, 0}), api.ErrForm}, {framed([]byte{5, 11, 0}), api.OK},
	} {
		if err := mustRead(t, x.p); err != x.want {
			t.Errorf("%x: %d, wanted %d", x.p, err, x.want)
		}
	}
	if n, err := Read(nil); err != api.ErrForm || !sameNote(n, Note{}) {
		t.Error(err)
	}
}

// P17.2: whole frames of notes that aren't Right.
func TestReadWrong(t *testing.T) {
	for _, change := range []func(*Note){
		func(n *Note) { n.To = n.From },
		func(n *Note) { n.From = 12 },
		func(n *Note) { n.To = 255 },
		func(n *Note) { n.Gift.No = 0 },
		func(n *Note) { n.Gift.To = 4 },
		func(n *Note) { n.Gift.Share = id.Zero() },
		func(n *Note) { n.Entries = append(n.Entries, wrote(t, 7, "2")) },
		func(n *Note) { n.Entries = append(n.Entries, wrote(t, 7, "0"), wrote(t, 7, "0")) },
	} {
		for kind := 1; kind <= 7; kind++ {
			n := full(t, kind)
			change(&n)
			want := api.ErrForm
			// What a kind hasn't isn't in its bytes.
			if b, _ := bare(n); isRight(b) {
				want = api.OK
			}
			if err := mustRead(t, framed(bodyOf(n))); err != want {
				t.Error(kind, err)
			}
		}
	}
}

// P17.2: whole frames whose bytes are cut, or of which one is another one.
func TestReadNearly(t *testing.T) {
	for kind := 1; kind <= 7; kind++ {
		body := bodyOf(full(t, kind))
		for at := range body {
			mustRead(t, framed(body[:at]))
			for by := range 256 {
				mustRead(t, framed(slices.Concat(body[:at], []byte{byte(by)}, body[at+1:])))
				mustRead(t, framed(slices.Concat(body[:at], []byte{byte(by)}, body[at:])))
			}
		}
		mustRead(t, framed(append(body, 0)))
	}
}

// P17.2, P1: all short bytes of some kinds, framed or not, and any bytes.
func TestReadAny(t *testing.T) {
	given := []string{""}
	for at := 0; len(given[at]) < 4; at++ {
		for _, b := range []byte{0, 1, 2, 3, 4, 5, 7, 11, 12, 0x80, 0x90} {
			given = append(given, given[at]+string([]byte{b}))
		}
	}
	for _, p := range given {
		mustRead(t, []byte(p))
		mustRead(t, framed([]byte(p)))
		mustRead(t, framed([]byte("\x03\x02\x03\x01"+p)))
	}
	rnd := rand.New(rand.NewSource(172))
	for range 30000 {
		p := make([]byte, rnd.Intn(24))
		rnd.Read(p)
		mustRead(t, p)
		if len(p) > 2 {
			p[0], p[1], p[2] = p[0]%9, p[1]%13, p[2]%13
		}
		mustRead(t, framed(p))
	}
}

// P17.1, P17.2: notes at random.
func TestAnyNotes(t *testing.T) {
	rnd := rand.New(rand.NewSource(171))
	trees := []string{"0", "1", "(0,1,0)", "(1,0,1)", "(0,(0,1,0),1048575)"}
	right := 0
	for range 20000 {
		kind := 1 + rnd.Intn(7)
		n := Note{
			Kind: kind, From: rnd.Intn(13), To: rnd.Intn(13), Session: rnd.Uint64() >> rnd.Intn(64), Seq: rnd.Intn(257), Last: rnd.Intn(2) == 0,
			Event: parseEvent(t, trees[rnd.Intn(5)]), No: rnd.Uint64() >> rnd.Intn(64),
		}
		n.Gift = deed.Gift{No: 1 + rnd.Uint64()>>(2+rnd.Intn(62)), From: n.From, To: n.To, Share: parseID(t, []string{"1", "((0,1),1)"}[rnd.Intn(2)])}
		for range rnd.Intn(6) {
			n.Entries = append(n.Entries, wrote(t, uint32(rnd.Uint64())>>rnd.Intn(32), trees[rnd.Intn(3)], []string{"Ann", "Bob"}[:rnd.Intn(3)]...))
		}
		if rnd.Intn(10) > 0 {
			n, _ = bare(n)
		}
		if mustTell(t, n) {
			right++
		}
	}
	if right < 5000 {
		t.Error(right)
	}
}

// What is handed in isn't changed and isn't kept; answers are new memory.
func TestMemory(t *testing.T) {
	for kind := 1; kind <= 7; kind++ {
		n := full(t, kind)
		n.Entries = append(make([]book.Entry, 0, 9), n.Entries...)
		want := framed(bodyOf(n))
		p, err := n.Bytes()
		if err != api.OK {
			t.Fatal(err)
		}
		for _, x := range n.Entries[len(n.Entries):9] {
			if !sameEntry(x, book.Entry{}) {
				t.Fatal("spare room")
			}
		}
		roomy := append(p, bytes.Repeat([]byte{0xee}, 50)...)
		all := bytes.Clone(roomy)
		got, err := Read(roomy[:len(want)])
		if err != api.OK || !bytes.Equal(roomy, all) {
			t.Fatal("changed")
		}
		scrub(roomy, 0x77)
		scrub(n.Entries, wrote(t, 77, "9"))
		again, _ := got.Bytes()
		scrub(again, 0x77)
		if again, _ := got.Bytes(); !bytes.Equal(again, want) {
			t.Fatal("shared")
		}
		other, _ := Read(want)
		scrub(other.Entries, wrote(t, 77, "9"))
		if again, _ := got.Bytes(); !bytes.Equal(again, want) {
			t.Fatal("shared")
		}
	}
}
