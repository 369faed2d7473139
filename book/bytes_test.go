package book

import (
	"bytes"
	"math/rand"
	"slices"
	"strconv"
	"strings"
	"testing"

	"kinfolk/api"
	"kinfolk/code"
	"kinfolk/event"
	"kinfolk/stamp"
	"kinfolk/wire"
)

// P14.5: by hand.
func TestBytesNamed(t *testing.T) {
	b := New(stamp.Seed())
	for _, x := range []struct {
		put  uint32
		want string
	}{
		{0, "\x01\x30\x00"}, // nothing is put yet
		{5, "\x01\x32" + "\x01" + "\x05\x0a\x01\x90\x00\x01\x01\x00\x03Ann"},
		{300, "\x01\x34" + "\x02" + "\x05\x0a\x01\x90\x00\x01\x01\x00\x03Ann" + "\xac\x02\x0a\x01\xa0\x00\x01\x01\x00\x03Ann"},
	} {
		if x.put > 0 {
			b.Put(x.put, named(t, "Ann"))
		}
		if got := b.Bytes(); string(got) != x.want {
			t.Errorf("%x, wanted %x", got, x.want)
		}
		if err := mustRead(t, []byte(x.want)); err != api.OK {
			t.Error(err)
		}
	}
	l := []Entry{wrote(t, 1<<32-1, "0"), wrote(t, 0, "0")}
	if got := PutEntries([]byte("ab"), l); string(got) != "ab\x02\xff\xff\xff\xff\x0f\x03\x01\x80\x01\x00\x03\x01\x80\x01" {
		t.Errorf("%x", got)
	}
	if got := PutEntries(nil, nil); string(got) != "\x00" {
		t.Errorf("%x", got)
	}
}

// P14.5: all versions are written, those of a tree of noughts too.
func TestBytesOfNoughts(t *testing.T) {
	b := New(stamp.Stamp{})
	if err := b.Take(event.Event{}, []Entry{wrote(t, 7, "0", "Ann"), wrote(t, 7, "0")}); err != api.OK {
		t.Fatal(err)
	}
	if len(b.Missing(event.Event{})) != 0 {
		t.Fatal(b.Missing(event.Event{}))
	}
	c, err := Read(b.Bytes())
	if err != api.OK || c.Set(7).Len() != 2 || len(c.Query(7)) != 1 {
		t.Fatal(err)
	}
}

// P14.5: entries are written as they stand, and read so, whatever a book
// might say of them.
func TestEntriesAgain(t *testing.T) {
	rnd := rand.New(rand.NewSource(145))
	trees := []string{"0", "1", "(0,0,1)", "(0,1,0)", "(2,0,(0,7,0))", "1048576"}
	for range 2000 {
		var l []Entry
		for range rnd.Intn(60) {
			names := []string{"Ann", "Bob", "Eve"}[:rnd.Intn(4)]
			l = append(l, wrote(t, []uint32{0, 1, 127, 128, 1<<32 - 1}[rnd.Intn(5)], trees[rnd.Intn(len(trees))], names...))
		}
		p := []byte("head")[:rnd.Intn(5)]
		got := PutEntries(p, l)
		if want := append(bytes.Clone(p), entryBytes(l)...); !bytes.Equal(got, want) {
			t.Fatalf("%x, wanted %x", got, want)
		}
		in := wire.Of(append(got[len(p):], 'x', 'y'))
		if again := GetEntries(in); !slices.EqualFunc(again, l, sameEntry) || in.Left() != 2 || in.Err() != api.OK {
			t.Fatal(in.Err())
		}
	}
}

// P14.5: one that isn't Right is written as one that is Gone.
func TestEntryNotRight(t *testing.T) {
	bad := wrote(t, 5, "1", "Ann")
	bad.Version.Gone = true
	if got, want := PutEntries(nil, []Entry{bad}), PutEntries(nil, []Entry{wrote(t, 5, "1")}); !bytes.Equal(got, want) {
		t.Fatalf("%x", got)
	}
}

// mustGet holds GetEntries of p against the model.
func mustGet(t *testing.T, p []byte) {
	t.Helper()
	in, m := wire.Of(p), &source{rest: p}
	l, want := GetEntries(in), m.entries()
	if in.Err() != m.err || m.err == api.OK && in.Left() != len(m.rest) || m.err != api.OK && l != nil || !slices.EqualFunc(l, want, sameEntry) {
		t.Fatalf("%.200x: %v %d, wanted %v %d", p, l, in.Err(), want, m.err)
	}
	if again := GetEntries(in); in.Err() != api.OK && again != nil {
		t.Fatal(again)
	}
}

// P14.5: of an error there are none, and what was met first stays.
func TestGetEntriesErrors(t *testing.T) {
	gone := "\x03\x01\x80\x01"
	high, greatest := "\x80\x80\x80\x80\x10", "\xff\xff\xff\xff\xff\xff\xff\xff\xff\x01"
	long := string(wire.Num(nil, 8193))
	filled := func(size int) string {
		return string(wire.Num(nil, uint64(size))) + "\x01\x80" + strings.Repeat("\x01", size-2)
	}
	for _, x := range []struct {
		p    string
		want api.Errno
	}{
		{"\x00", api.OK}, {"\x00\x09", api.OK}, {"\x01\x05" + gone, api.OK}, {"\x02\x05" + gone + "\x05" + gone, api.OK},
		{"", api.ErrForm}, {"\x80", api.ErrForm}, {"\x81\x00", api.ErrForm}, {"\x01", api.ErrForm}, {"\x01\x05", api.ErrForm}, {"\x02\x05" + gone, api.ErrForm},
		{greatest, api.ErrForm}, {greatest + "\x05" + gone, api.ErrForm}, {greatest + strings.Repeat("\x05"+gone, 99), api.ErrForm},
		{"\x01\x85\x00" + gone, api.ErrForm}, {"\x01\xff\xff\xff\xff\x0f" + gone, api.OK},
		{"\x01" + high + gone, api.ErrForm}, {"\x01" + greatest + gone, api.ErrForm},
		// The ID is met ahead of the version, and that one's length ahead of it.
		{"\x01" + high + long, api.ErrForm}, {"\x01\x05" + long, api.ErrLong}, {"\x01\x05" + greatest, api.ErrLong},
		{"\x01\x05" + filled(8192), api.ErrForm}, {"\x01\x05" + filled(8193), api.ErrLong}, {"\x01\x05" + string(wire.Num(nil, 8192)), api.ErrForm},
		// Layer 13's error.
		{"\x01\x05\x00", api.ErrForm}, {"\x01\x05\x03\x01\x80\x02", api.ErrForm}, {"\x01\x05\x04\x01\x80\x00\x09", api.ErrFull}, {"\x01\x05\x02\x81\x20", api.ErrLong},
		{"\x01\x05\x07\x01\x80\x00\x01\x07\x00\x00", api.ErrArg}, {"\x01\x05\x07\x01\x80\x00\x01\x01\x00\x00", api.ErrText},
		{"\x01\x05\x09\x08" + strings.Repeat("\x00", 8), api.ErrDeep},
		// The first one's error, though the second one has another.
		{"\x02\x05\x04\x01\x80\x00\x09" + high, api.ErrFull}, {"\x02" + high + gone + "\x05\x04\x01\x80\x00\x09", api.ErrForm}, {"\x02\x05" + gone + "\x05\x04\x01\x80\x00\x09", api.ErrFull},
	} {
		in := wire.Of([]byte(x.p))
		if GetEntries(in); in.Err() != x.want {
			t.Errorf("%.40x: %d, wanted %d", x.p, in.Err(), x.want)
		}
		mustGet(t, []byte(x.p))
	}
	in := wire.Of([]byte("\x01\x05" + gone))
	in.Fail(api.ErrBusy)
	if l := GetEntries(in); l != nil || in.Err() != api.ErrBusy {
		t.Error(l, in.Err())
	}
	if l := GetEntries(nil); l != nil {
		t.Error(l)
	}
}

// P14.5: what is met first.
func TestReadErrors(t *testing.T) {
	head, gone := "\x01\x32", "\x03\x01\x90\x01" // the stamp (1;1), a version of the tree 1
	full := "\x01\x05\x04\x01\x80\x00\x09"       // entries whose error is ErrFull
	deep := "\x08" + strings.Repeat("\x55", 8)   // a stamp whose error is ErrDeep
	above := code.Event(parseEvent(t, strconv.Itoa(api.MaxCount)))
	count := string(above[:len(above)-1]) + string([]byte{above[len(above)-1] | 0x10})
	for _, x := range []struct {
		p    string
		want api.Errno
	}{
		{head + "\x00", api.OK}, {head + "\x01\x05" + gone, api.OK},
		{"", api.ErrForm}, {"\x01", api.ErrForm}, {head, api.ErrForm}, {"\x00\x00", api.ErrForm}, {"\x80", api.ErrForm}, {"\x01\x33\x00", api.ErrForm},
		{"\x01\x30\x00", api.OK}, {"\x01\x10\x00", api.OK}, {"\x02\x30\x00\x00", api.ErrForm},
		// The stamp's error is ahead of all behind it.
		{deep, api.ErrDeep}, {deep + full, api.ErrDeep}, {"\x01\x00" + full, api.ErrForm}, {head + full, api.ErrFull},
		// The entries' are ahead of the end's, that's ahead of the form's.
		{head + full + "\x00", api.ErrFull}, {head + "\x01\x05" + gone + "\x00", api.ErrForm}, {head + "\x00\x00", api.ErrForm},
		{head + "\x02\x06" + gone + full[1:], api.ErrFull},
		{head + "\x02\x05" + gone + "\x05" + gone, api.ErrForm},
		{head + "\x02\x06" + gone + "\x05" + gone, api.ErrForm}, {head + "\x02\x05" + gone + "\x06" + gone, api.OK},
		{"\x01\x30\x01\x05" + gone, api.ErrForm},
		// How long a stamp may be is told ahead of its not being there.
		{string(wire.Num(nil, 8192)), api.ErrForm}, {string(wire.Num(nil, 8193)), api.ErrLong},
		{string(wire.Num(nil, 8192)) + strings.Repeat("\x55", 8192), api.ErrDeep}, {string(wire.Num(nil, 8193)) + strings.Repeat("\x55", 8193), api.ErrLong},
		{"\xff\xff\xff\xff\xff\xff\xff\xff\xff\x01", api.ErrLong}, {"\xff\xff\xff\xff\xff\xff\xff\xff\xff\x02", api.ErrForm},
	} {
		if err := mustRead(t, []byte(x.p)); err != x.want {
			t.Errorf("%.40x: %d, wanted %d", x.p, err, x.want)
		}
	}
	// The bits 00 0 of the id 0, and a tree that is too high.
	w := []byte{count[0] >> 3}
	for i := 1; i <= len(count); i++ {
		next := byte(0)
		if i < len(count) {
			next = count[i]
		}
		w = append(w, count[i-1]<<5|next>>3)
	}
	if err := mustRead(t, append(textOf(w), full...)); err != api.ErrCount {
		t.Error(err)
	}
	if b, err := Read(nil); b != nil || err != api.ErrForm {
		t.Error(err)
	}
}

// withStamp answers the bytes of a stamp of a tree, and of entries.
func withStamp(t *testing.T, tree string, l []Entry) []byte {
	t.Helper()
	return append(textOf(code.Stamp(stampOf(t, "(1,0)", tree))), entryBytes(l)...)
}

// P14.5: all short rows of a few entries, of which some stand in a set.
func TestReadRows(t *testing.T) {
	all := []Entry{
		wrote(t, 1, "(0,1,0)", "Ann"), wrote(t, 1, "(0,1,0)"), wrote(t, 1, "(0,0,1)", "Ann"), wrote(t, 1, "1", "Bob"),
		wrote(t, 2, "(0,0,1)", "Ann"), wrote(t, 2, "(0,2,0)"), wrote(t, 0, "0", "Eve"), wrote(t, 300, "2"), wrote(t, 1, "0"),
	}
	seen := map[api.Errno]int{}
	lists := [][]Entry{nil}
	for at := 0; at < len(lists); at++ {
		for _, tree := range []string{"2", "1", "(0,2,0)", "(1,0,1048575)"} {
			seen[mustRead(t, withStamp(t, tree, lists[at]))]++
		}
		if len(lists[at]) < 4 {
			for _, x := range all {
				lists = append(lists, append(slices.Clone(lists[at]), x))
			}
		}
	}
	if seen[api.OK] < 50 || seen[api.ErrForm] < 50 {
		t.Error(seen)
	}
}

// P14.5: as many contacts, and versions of one, as there may be, and one more;
// whether these are a book's otherwise is asked first.
func TestReadFull(t *testing.T) {
	var contacts, versions []Entry
	for n := range uint32(api.MaxContacts + 1) {
		contacts = append(contacts, wrote(t, n, "1", "Ann"))
	}
	for n := range api.MaxVersions + 1 {
		versions = append(versions, wrote(t, 5, "1", "v"+strconv.Itoa(n)))
	}
	turned := slices.Clone(contacts)
	turned[0], turned[1] = turned[1], turned[0]
	twice := append(slices.Clone(versions), versions[len(versions)-1])
	under := append([]Entry{wrote(t, 5, "0", "Ann")}, versions...)
	high := append(slices.Clone(contacts), wrote(t, 99, "2", "Ann"))
	for k, x := range []struct {
		l    []Entry
		want api.Errno
	}{
		{contacts[1:], api.OK}, {contacts, api.ErrFull}, {versions[1:], api.OK}, {versions, api.ErrFull},
		{slices.Concat(contacts[:5], versions[1:], contacts[6:32]), api.OK}, {slices.Concat(contacts[:5], versions, contacts[6:9]), api.ErrFull},
		{turned, api.ErrForm}, {twice, api.ErrForm}, {under, api.ErrForm}, {high, api.ErrForm}, {slices.Concat(versions, contacts[:1]), api.ErrForm},
	} {
		if err := mustRead(t, withStamp(t, "1", x.l)); err != x.want {
			t.Error(k, err)
		}
	}
}

// comb answers a tree of so many halves (0,0,1).
func comb(t *testing.T, many int) event.Event {
	t.Helper()
	if many == 1 {
		return parseEvent(t, "(0,0,1)")
	}
	e, err := event.Node(0, comb(t, many/2), comb(t, many-many/2))
	if err != api.OK {
		t.Fatal(err)
	}
	return e
}

// P14.5: stamps of the most bytes, and of one more.
func TestReadLongStamp(t *testing.T) {
	for _, x := range []struct {
		many, size int
		want       api.Errno
	}{
		{6553, 8192, api.OK},
		{6554, 8193, api.ErrLong},
	} {
		s := stamp.Stamp{Event: comb(t, x.many)}
		if got := len(code.Stamp(s)); got != x.size {
			t.Fatal(got)
		}
		if err := mustRead(t, New(s).Bytes()); err != x.want {
			t.Error(x, err)
		}
	}
}

// aBook is one at random that was told much.
func aBook(t *testing.T, rnd *rand.Rand) *Book {
	t.Helper()
	var books []*Book
	for _, i := range []string{"((1,0),0)", "((0,1),0)", "(0,1)"} {
		books = append(books, New(stampOf(t, i, "0")))
	}
	for range 40 {
		b := books[rnd.Intn(3)]
		someStep(t, rnd, 4, books).do(b)
	}
	return books[0]
}

// P14.5: books that are cut, and of which one byte is another one.
func TestReadNearly(t *testing.T) {
	rnd := rand.New(rand.NewSource(1451))
	for range 20 {
		p := aBook(t, rnd).Bytes()
		if err := mustRead(t, p); err != api.OK {
			t.Fatal(err)
		}
		for at := range p {
			mustRead(t, p[:at])
			mustGet(t, p[at:])
			for _, b := range []byte{0, 1, 2, 3, 9, 0x80, 0xff, p[at] + 1, p[at] - 1, p[at] ^ 0x10} {
				mustRead(t, slices.Concat(p[:at], []byte{b}, p[at+1:]))
				mustRead(t, slices.Concat(p[:at], []byte{b}, p[at:]))
			}
		}
		mustRead(t, append(p, 0))
	}
}

// P14.5, P1: all short bytes of some kinds, and any bytes.
func TestReadAny(t *testing.T) {
	given := []string{""}
	for at := 0; len(given[at]) < 5; at++ {
		for _, b := range []byte{0, 1, 2, 3, 0x10, 0x30, 0x80, 0x90, 0xff} {
			given = append(given, given[at]+string([]byte{b}))
		}
	}
	for _, p := range given {
		mustRead(t, []byte(p))
		mustRead(t, []byte("\x01\x32"+p))
		mustRead(t, []byte("\x01\x32\x01\x05\x03"+p))
		mustGet(t, []byte(p))
	}
	rnd := rand.New(rand.NewSource(1452))
	for range 50000 {
		p := make([]byte, rnd.Intn(20))
		rnd.Read(p)
		mustRead(t, p)
		mustGet(t, p)
	}
}

// P1: however much is told, the call ends soon.
func TestReadMuch(t *testing.T) {
	var l []Entry
	for n := range uint32(20000) {
		l = append(l, wrote(t, n, "1", "Ann"))
	}
	if b, err := Read(withStamp(t, "1", l)); b != nil || err != api.ErrFull {
		t.Error(err)
	}
	if err := New(stamp.Seed()).Take(parseEvent(t, "1"), l); err != api.ErrFull {
		t.Error(err)
	}
}

// A book that was read is one that goes on.
func TestReadGoesOn(t *testing.T) {
	rnd := rand.New(rand.NewSource(1453))
	for range 50 {
		b := aBook(t, rnd)
		c, err := Read(b.Bytes())
		if err != api.OK {
			t.Fatal(err)
		}
		for range 20 {
			s := someStep(t, rnd, 4, []*Book{b, aBook(t, rnd)})
			x, y := s.do(b), s.do(c)
			if x.err != y.err || !whole(x.version, y.version) || !bytes.Equal(b.Bytes(), c.Bytes()) {
				t.Fatalf("%+v: %+v %+v", s, x, y)
			}
		}
	}
	c, err := Read([]byte("\x01\x30\x00"))
	if err != api.OK {
		t.Fatal(err)
	}
	if _, err := c.Put(5, named(t, "Ann")); err != api.OK || len(c.Query(5)) != 1 {
		t.Fatal(err)
	}
}

// What is handed in isn't changed and isn't kept; answers are new memory.
func TestBytesMemory(t *testing.T) {
	rnd := rand.New(rand.NewSource(1454))
	b := aBook(t, rnd)
	before := b.Bytes()
	roomy := append(bytes.Clone(before), bytes.Repeat([]byte{0xee}, 50)...)
	all := bytes.Clone(roomy)
	c, err := Read(roomy[:len(before)])
	if err != api.OK || !bytes.Equal(roomy, all) {
		t.Fatal(err)
	}
	scrub(roomy, 0x77)
	if !bytes.Equal(c.Bytes(), before) {
		t.Fatal("kept")
	}
	l := b.Missing(event.Event{})
	for _, l := range [][]Entry{nil, l} {
		p := append(bytes.Repeat([]byte{0x55}, 3), bytes.Repeat([]byte{0xee}, 9000)...)
		got := PutEntries(p[:3], l)
		want := append([]byte{0x55, 0x55, 0x55}, entryBytes(l)...)
		if !bytes.Equal(got, want) || p[3] != 0xee || bytes.Count(p, []byte{0xee}) != 9000 {
			t.Fatal("changed")
		}
		scrub(got, 0x77)
		if bytes.Count(p, []byte{0x77}) > 0 {
			t.Fatal("shared")
		}
	}
	if len(l) == 0 {
		t.Fatal("none")
	}
}
