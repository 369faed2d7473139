package paper

import (
	"bytes"
	"math"
	"math/rand"
	"slices"
	"strings"
	"testing"

	"kinfolk/api"
	"kinfolk/card"
)

// Fields, lists and patches of which just one part is told.
func kind(n int) card.Field            { return card.Field{Kind: n} }
func label(n int) card.Field           { return card.Field{Label: strings.Repeat("l", n)} }
func value(n int) card.Field           { return card.Field{Value: strings.Repeat("v", n)} }
func many(n int) []card.Field          { return slices.Repeat([]card.Field{{}}, n) }
func manyKinds(n int) []int            { return slices.Repeat([]int{1}, n) }
func adds(l ...card.Field) card.Patch  { return card.Patch{Adds: l} }
func drops(l ...card.Field) card.Patch { return card.Patch{Drops: l} }
func clears(l ...int) card.Patch       { return card.Patch{Clear: l} }

// P10.2: by hand.
func TestPatchNamed(t *testing.T) {
	ann := card.Field{Kind: card.Name, Value: "Ann"}
	for want, p := range map[string]card.Patch{
		"\x00\x00\x00":                             {},
		"\x01\x01\x00\x03Ann\x00\x02\x02\xff":      {Adds: []card.Field{ann}, Clear: []int{2, 255}},
		"\x00\x01\x01\x00\x03Ann\x00":              drops(ann),
		"\x00\x00\x03\x00\x00\x07":                 clears(0, 0, 7),
		"\x01\xff\x01\xff\x00\x01\x00\x00\x00\x00": {Adds: []card.Field{{Kind: 255, Label: "\xff"}}, Drops: []card.Field{{}}},
		// In the order in which they stand, and as often.
		"\x03\x02\x00\x011\x01\x00\x03Ann\x02\x00\x011\x00\x00": adds(card.Field{Kind: 2, Value: "1"}, ann, card.Field{Kind: 2, Value: "1"}),
	} {
		got, err := Patch(p)
		if err != api.OK || string(got) != want {
			t.Fatalf("%v: %x, %d", p, got, err)
		}
		if back, err := ReadPatch([]byte(want)); err != api.OK || !samePatch(back, p) {
			t.Fatalf("%x: %v, %d", want, back, err)
		}
	}
}

// P10.2: the limits, and too long ahead of a kind that is strange.
func TestPatchErrors(t *testing.T) {
	for _, x := range []struct {
		p    card.Patch
		want api.Errno
	}{
		{adds(many(255)...), api.OK}, {adds(many(256)...), api.ErrLong}, {adds(many(1 << 16)...), api.ErrLong},
		{drops(many(255)...), api.OK}, {drops(many(256)...), api.ErrLong},
		{clears(manyKinds(255)...), api.OK}, {clears(manyKinds(256)...), api.ErrLong},
		{card.Patch{Adds: many(255), Drops: many(255), Clear: manyKinds(255)}, api.OK},
		{adds(label(255), value(255)), api.OK}, {adds(label(256)), api.ErrLong}, {adds(value(256)), api.ErrLong}, {adds(kind(1), kind(2), value(256)), api.ErrLong},
		{drops(label(255), value(255)), api.OK}, {drops(label(256)), api.ErrLong}, {drops(value(256)), api.ErrLong}, {drops(kind(1), label(1<<20)), api.ErrLong},
		{adds(kind(0), kind(255)), api.OK}, {adds(kind(-1)), api.ErrArg}, {adds(kind(256)), api.ErrArg}, {adds(kind(1), kind(math.MinInt)), api.ErrArg},
		{drops(kind(0), kind(255)), api.OK}, {drops(kind(-1)), api.ErrArg}, {drops(kind(256)), api.ErrArg}, {drops(kind(1), kind(math.MaxInt)), api.ErrArg},
		{clears(0, 255), api.OK}, {clears(-1), api.ErrArg}, {clears(256), api.ErrArg}, {clears(1, 2, 1<<40), api.ErrArg}, {clears(1, -1<<40), api.ErrArg},
		{adds(kind(-1), label(256)), api.ErrLong}, {adds(card.Field{Kind: 256, Value: strings.Repeat("v", 256)}), api.ErrLong},
		{card.Patch{Adds: []card.Field{kind(-1)}, Drops: []card.Field{value(256)}}, api.ErrLong},
		{card.Patch{Adds: []card.Field{kind(-1)}, Drops: many(256)}, api.ErrLong},
		{card.Patch{Adds: []card.Field{kind(-1)}, Clear: manyKinds(256)}, api.ErrLong},
		{card.Patch{Drops: []card.Field{kind(256)}, Clear: manyKinds(256)}, api.ErrLong},
		{card.Patch{Drops: []card.Field{value(256)}, Clear: []int{-1}}, api.ErrLong},
		{card.Patch{Adds: []card.Field{label(256)}, Clear: []int{256}}, api.ErrLong},
		{clears(append(manyKinds(255), -1)...), api.ErrLong},
		{adds(append(many(255), kind(-1))...), api.ErrLong},
		{adds(append(many(254), kind(-1))...), api.ErrArg},
	} {
		got, err := Patch(x.p)
		if err != x.want || err != api.OK && len(got) != 0 {
			t.Fatalf("%.300v: %d, wanted %d", x.p, err, x.want)
		}
		if err != api.OK {
			continue
		}
		if !bytes.Equal(got, tellPatch(x.p)) {
			t.Fatalf("%.300v", x.p)
		}
		if back, err := ReadPatch(got); err != api.OK || !samePatch(back, x.p) {
			t.Fatalf("%.300v: %d", x.p, err)
		}
	}
}

// mustReadPatch holds ReadPatch of b against the model.
func mustReadPatch(t *testing.T, b string) {
	t.Helper()
	m := &model{rest: b}
	want := m.patch()
	got, err := ReadPatch([]byte(b))
	if err != m.err || !samePatch(got, want) {
		t.Fatalf("%.300q: %.300v, %d; wanted %.300v, %d", b, got, err, want, m.err)
	}
	if err != api.OK {
		return
	}
	if again, err := Patch(got); err != api.OK || string(again) != b {
		t.Fatalf("%.300q: %d", b, err)
	}
}

// P10.2: what is met first.
func TestReadPatchNamed(t *testing.T) {
	long := "\x80\x02" + strings.Repeat("x", 256)
	for _, x := range []struct {
		b    string
		want api.Errno
	}{
		{"", api.ErrForm}, {"\x00", api.ErrForm}, {"\x00\x00", api.ErrForm}, {"\x00\x00\x00", api.OK}, {"\x00\x00\x00\x00", api.ErrForm},
		{"\x80\x00\x00\x00", api.ErrForm}, {"\x00\x80\x00\x00", api.ErrForm}, {"\x00\x00\x80\x00", api.ErrForm},
		{"\x80\x02", api.ErrLong}, {"\x00\x80\x02", api.ErrLong}, {"\x00\x00\x80\x02", api.ErrLong}, {"\xff\x01", api.ErrForm}, {"\x00\xff\x01", api.ErrForm}, {"\x00\x00\xff\x01", api.ErrForm},
		{"\xff\xff\xff\xff\xff\xff\xff\xff\xff\x01", api.ErrLong}, {"\x00\x00\xff\xff\xff\xff\xff\xff\xff\xff\xff\x01", api.ErrLong}, {"\x00\x80\x80\x80\x80\x80\x80\x80\x80\x80\x01", api.ErrLong},
		{"\x01\x01\x80\x02", api.ErrLong}, {"\x01\x01\x00\x80\x02", api.ErrLong}, {"\x01\x01\xff\x01", api.ErrForm}, {"\x01\x01\x00\xff\x01", api.ErrForm},
		{"\x01\x00" + long + "\x00", api.ErrLong}, {"\x01\x00\x00" + long + "\x00\x00", api.ErrLong}, {"\x00\x01\x00" + long, api.ErrLong}, {"\x00\x01\x00\x00" + long + "\x00", api.ErrLong},
		{"\x01\x07\x00\x00\x00\x00", api.OK}, {"\x01\x00\x00\x01\xff\x00\x01\xff", api.OK},
		{"\x00\x00\x02\x01", api.ErrForm}, {"\x00\x00\x02\x01\x01\x01", api.ErrForm}, {"\x01", api.ErrForm},
	} {
		if p, err := ReadPatch([]byte(x.b)); err != x.want || err != api.OK && !samePatch(p, card.Patch{}) {
			t.Errorf("%.300q: %d, wanted %d", x.b, err, x.want)
		}
		mustReadPatch(t, x.b)
	}
	if _, err := ReadPatch(nil); err != api.ErrForm {
		t.Fatal(err)
	}
}

// P10.2: all short bytes of some kinds.
func TestReadPatchAll(t *testing.T) {
	given := []string{""}
	for at := 0; len(given[at]) < 6; at++ {
		for _, b := range []byte{0, 1, 2, 3, 'a', 0x80, 0x81, 0xff} {
			given = append(given, given[at]+string([]byte{b}))
		}
	}
	for _, b := range given {
		mustReadPatch(t, b)
		mustReadPatch(t, "\x01\x02\x01a\x00"+b)
	}
}

// anyPatch answers a patch at random, all of whose parts a byte can tell.
func anyPatch(rnd *rand.Rand) card.Patch {
	text := func() string {
		p := make([]byte, []int{0, 1, 3, 41, 127, 128, 254, 255}[rnd.Intn(8)])
		rnd.Read(p)
		return string(p)
	}
	list := func() []card.Field {
		var l []card.Field
		for range []int{0, 1, 2, 9}[rnd.Intn(4)] {
			l = append(l, card.Field{Kind: rnd.Intn(256), Label: text(), Value: text()})
		}
		return l
	}
	p := card.Patch{Adds: list(), Drops: list()}
	for range []int{0, 1, 6, 127, 128, 255}[rnd.Intn(6)] {
		p.Clear = append(p.Clear, rnd.Intn(256))
	}
	return p
}

// P10.2: patches at random, and back; cut, and with one byte another one.
func TestPatchAgain(t *testing.T) {
	rnd := rand.New(rand.NewSource(12))
	for range 3000 {
		p := anyPatch(rnd)
		b, err := Patch(p)
		if err != api.OK || !bytes.Equal(b, tellPatch(p)) {
			t.Fatal(p, err)
		}
		s := string(b)
		mustReadPatch(t, s)
		for range 20 {
			at := rnd.Intn(len(s))
			mustReadPatch(t, s[:at])
			mustReadPatch(t, s[:at]+string([]byte{byte(rnd.Intn(256))})+s[at+1:])
			mustReadPatch(t, s[:at]+string([]byte{byte(rnd.Intn(256))})+s[at:])
		}
		mustReadPatch(t, s+"\x00")
	}
}

// P10.2: what is read makes of a card what was written.
func TestPatchDiff(t *testing.T) {
	all := cards(t)
	for _, a := range all {
		for _, c := range all {
			b, err := Patch(card.Diff(a, c))
			if err != api.OK {
				t.Fatal(err)
			}
			p, err := ReadPatch(b)
			if err != api.OK {
				t.Fatal(err)
			}
			if got, err := a.Patch(p); err != api.OK || !card.Same(got, c) {
				t.Fatal(a.Fields(), c.Fields(), err)
			}
		}
	}
}

// What is handed in isn't changed and isn't kept; answers are new memory.
func TestPatchMemory(t *testing.T) {
	fields := append(few(), notes(5)...)
	kinds := []int{1, 2, 3, 4}
	p := card.Patch{Adds: fields[:3], Drops: fields[3:6], Clear: kinds[:2]}
	b, err := Patch(p)
	if err != api.OK || !slices.Equal(fields, append(few(), notes(5)...)) || !slices.Equal(kinds, []int{1, 2, 3, 4}) {
		t.Fatal(err)
	}
	again, _ := Patch(p)
	clear(again[:cap(again)])
	read, whole := roomy(b)
	before := bytes.Clone(whole)
	got, err := ReadPatch(read)
	if err != api.OK || !bytes.Equal(whole, before) {
		t.Fatal(err)
	}
	other, _ := ReadPatch(read)
	clear(whole)
	clear(other.Adds[:cap(other.Adds)])
	clear(other.Drops[:cap(other.Drops)])
	clear(other.Clear[:cap(other.Clear)])
	if !samePatch(got, p) {
		t.Fatal("kept, or shared")
	}
	clear(got.Adds[:cap(got.Adds)])
	if !slices.Equal(got.Drops, p.Drops) {
		t.Fatal("shared")
	}
}
