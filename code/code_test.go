package code

import (
	"bytes"
	"fmt"
	"math/rand"
	"strings"
	"testing"

	"kinfolk/api"
	"kinfolk/bits"
	"kinfolk/event"
	"kinfolk/id"
	"kinfolk/stamp"
)

// idOfPlaces answers the id that has those places of which all says 1.
func idOfPlaces(t *testing.T, all string) id.ID {
	t.Helper()
	if len(all) == 1 {
		return idOf(t, all)
	}
	half := len(all) / 2
	i, err := id.Pair(idOfPlaces(t, all[:half]), idOfPlaces(t, all[half:]))
	if err != api.OK {
		t.Fatal(all, err)
	}
	return i
}

// allIDs answers all ids of at most the depth 3.
func allIDs(t *testing.T) []id.ID {
	t.Helper()
	var l []id.ID
	for all := range 1 << 8 {
		l = append(l, idOfPlaces(t, fmt.Sprintf("%08b", all)))
	}
	return l
}

// eventOfHeights answers the tree that has these heights.
func eventOfHeights(t *testing.T, l []uint64) event.Event {
	t.Helper()
	if len(l) == 1 {
		e, err := event.Leaf(l[0])
		if err != api.OK {
			t.Fatal(l, err)
		}
		return e
	}
	half := len(l) / 2
	e, err := event.Node(0, eventOfHeights(t, l[:half]), eventOfHeights(t, l[half:]))
	if err != api.OK {
		t.Fatal(l, err)
	}
	return e
}

// allEvents answers all trees of four places, each of one of these heights.
func allEvents(t *testing.T) []event.Event {
	t.Helper()
	heights := []uint64{0, 1, 2, 3, 4, 5, 12, api.MaxCount - 1, api.MaxCount}
	var l []event.Event
	for _, a := range heights {
		for _, b := range heights {
			for _, c := range heights {
				for _, d := range heights {
					l = append(l, eventOfHeights(t, []uint64{a, b, c, d}))
				}
			}
		}
	}
	return l
}

// someID answers an id at random, that may be as deep as an id can be.
func someID(rnd *rand.Rand, deep int) id.ID {
	if deep == api.MaxDepth || rnd.Intn(4) == 0 {
		return []id.ID{id.Zero(), id.One()}[rnd.Intn(2)]
	}
	l, r := someID(rnd, deep+1), id.Zero()
	if rnd.Intn(2) == 0 {
		r = someID(rnd, deep+1)
	}
	if rnd.Intn(2) == 0 {
		l, r = r, l
	}
	i, _ := id.Pair(l, r)
	return i
}

// someEvent answers a tree at random, that may be as deep as a tree can be.
func someEvent(rnd *rand.Rand, deep int) event.Event {
	n := uint64(rnd.Intn(1 << rnd.Intn(17)))
	if deep == api.MaxDepth || rnd.Intn(4) == 0 {
		e, _ := event.Leaf(n)
		return e
	}
	l, r := someEvent(rnd, deep+1), event.Event{}
	if rnd.Intn(2) == 0 {
		r = someEvent(rnd, deep+1)
	}
	if rnd.Intn(2) == 0 {
		l, r = r, l
	}
	e, _ := event.Node(n, l, r)
	return e
}

// comb answers the tree of the most places, whose heights are low and high by
// turns.
func comb(t *testing.T, low, high uint64) event.Event {
	t.Helper()
	e := eventOfHeights(t, []uint64{low, high})
	for e.Depth() < api.MaxDepth {
		more, err := event.Node(0, e, e)
		if err != api.OK {
			t.Fatal(err)
		}
		e = more
	}
	return e
}

// mustTellID asks for these bits of an id, wherever they are written to, and
// that they are read again.
func mustTellID(t *testing.T, i id.ID, signs string) {
	t.Helper()
	w := bits.NewWriter()
	w.Put(5, 3)
	PutID(w, i)
	if !bytes.Equal(w.Bytes(), packed("101"+signs)) || w.Len() != 3+len(signs) {
		t.Fatalf("PutID of %s: %08b, wanted %s", i.Text(), w.Bytes(), signs)
	}
	p := ID(i)
	if !bytes.Equal(p, packed(signs)) {
		t.Fatalf("ID of %s: %08b, wanted %s", i.Text(), p, signs)
	}
	if got, err := ReadID(p); err != api.OK || !id.Same(got, i) {
		t.Fatal(i.Text(), got.Text(), err)
	}
}

// mustTellEvent asks the same of an event tree.
func mustTellEvent(t *testing.T, e event.Event, signs string) {
	t.Helper()
	w := bits.NewWriter()
	w.Put(5, 3)
	PutEvent(w, e)
	if !bytes.Equal(w.Bytes(), packed("101"+signs)) || w.Len() != 3+len(signs) {
		t.Fatalf("PutEvent of %s: %08b, wanted %s", e.Text(), w.Bytes(), signs)
	}
	p := Event(e)
	if !bytes.Equal(p, packed(signs)) {
		t.Fatalf("Event of %s: %08b, wanted %s", e.Text(), p, signs)
	}
	if got, err := ReadEvent(p); err != api.OK || !event.Same(got, e) {
		t.Fatal(e.Text(), got.Text(), err)
	}
}

// P7.1: each of an id's forms, by hand.
func TestIDNamed(t *testing.T) {
	for text, signs := range map[string]string{
		"0":                 "00 0",
		"1":                 "00 1",
		"(0,1)":             "01 00 1",
		"(1,0)":             "10 00 1",
		"(0,(0,1))":         "01 01 00 1",
		"(0,(1,0))":         "01 10 00 1",
		"((0,1),0)":         "10 01 00 1",
		"(1,(0,1))":         "11 00 1 01 00 1",
		"((1,0),1)":         "11 10 00 1 00 1",
		"((1,0),(0,1))":     "11 10 00 1 01 00 1",
		"(1,(1,(0,1)))":     "11 00 1 11 00 1 01 00 1",
		"(((1,0),1),(0,1))": "11 11 10 00 1 00 1 01 00 1",
	} {
		mustTellID(t, idOf(t, text), strings.ReplaceAll(signs, " ", ""))
	}
	mustTellID(t, id.ID{}, "000")
}

// P7.1: each of a tree's forms, by hand.
func TestEventNamed(t *testing.T) {
	for text, signs := range map[string]string{
		"0":                   "1 000",
		"3":                   "1 011",
		"5":                   "1 10001",
		"12":                  "1 1100000",
		"(0,0,1)":             "0 00 1 001",
		"(0,1,0)":             "0 01 1 001",
		"(0,(0,0,1),2)":       "0 10 0 00 1 001 1 010",
		"(0,2,(0,1,0))":       "0 10 1 010 0 01 1 001",
		"(3,0,1)":             "0 11 0 0 011 1 001",
		"(3,1,0)":             "0 11 0 1 011 1 001",
		"(4,0,1)":             "0 11 0 0 10000 1 001",
		"(4,(0,0,1),2)":       "0 11 1 10000 0 00 1 001 1 010",
		"(3,(0,0,1),(1,0,1))": "0 11 1 011 0 00 1 001 0 11 0 0 001 1 001",
		"(0,(1,0,2),0)":       "0 01 0 11 0 0 001 1 010",
		"1048576":             "1" + strings.Repeat("1", 18) + "0" + strings.Repeat("0", 17) + "100",
	} {
		mustTellEvent(t, eventOf(t, text), strings.ReplaceAll(signs, " ", ""))
	}
	mustTellEvent(t, event.Event{}, "1000")
}

// P7.1, P7.3: all small ones, and all pairs of some of them as a stamp.
func TestAllSmall(t *testing.T) {
	ids, events := allIDs(t), allEvents(t)
	for _, i := range ids {
		mustTellID(t, i, idSigns(i.Text()))
	}
	for _, e := range events {
		mustTellEvent(t, e, eventSigns(e.Text()))
	}
	for k, e := range events {
		mustTellStamp(t, stamp.Stamp{ID: ids[k%len(ids)], Event: e})
	}
}

func mustTellStamp(t *testing.T, s stamp.Stamp) {
	t.Helper()
	p := Stamp(s)
	if !bytes.Equal(p, packed(idSigns(s.ID.Text())+eventSigns(s.Event.Text()))) {
		t.Fatalf("Stamp of %s: %08b", s.Text(), p)
	}
	if got, err := ReadStamp(p); err != api.OK || !stamp.Same(got, s) {
		t.Fatal(s.Text(), got.Text(), err)
	}
}

// P7.1, P7.3: great ones.
func TestSomeGreat(t *testing.T) {
	rnd := rand.New(rand.NewSource(7))
	for range 1000 {
		s := stamp.Stamp{ID: someID(rnd, 0), Event: someEvent(rnd, 0)}
		mustTellID(t, s.ID, idSigns(s.ID.Text()))
		mustTellEvent(t, s.Event, eventSigns(s.Event.Text()))
		mustTellStamp(t, s)
	}
}

// P7.3: the greatest.
func TestGreatest(t *testing.T) {
	for _, e := range []event.Event{comb(t, 0, 1), comb(t, api.MaxCount, 7), comb(t, 0, api.MaxCount)} {
		p := Event(e)
		if got, err := ReadEvent(p); err != api.OK || !event.Same(got, e) || got.Depth() != api.MaxDepth {
			t.Fatal(got.Depth(), err)
		}
	}
	i := idOf(t, "(1,0)")
	for i.Depth() < api.MaxDepth {
		more, err := id.Pair(i, i)
		if err != api.OK {
			t.Fatal(err)
		}
		i = more
	}
	if got, err := ReadID(ID(i)); err != api.OK || !id.Same(got, i) || got.Depth() != api.MaxDepth {
		t.Fatal(got.Depth(), err)
	}
}

// P7.3: the document's example.
func TestStampNamed(t *testing.T) {
	if p := Stamp(stamp.Seed()); !bytes.Equal(p, []byte{0x30}) {
		t.Fatalf("%x", p)
	}
	if s, err := ReadStamp([]byte{0x30}); err != api.OK || s.Text() != "(1;0)" {
		t.Fatal(s.Text(), err)
	}
	if p := Stamp(stamp.Stamp{}); !bytes.Equal(p, packed("000"+"1000")) {
		t.Fatalf("%x", p)
	}
}

// P7.2: what stands one behind the other in a writer is read in that order,
// and nothing behind it.
func TestOneBehindTheOther(t *testing.T) {
	rnd := rand.New(rand.NewSource(72))
	for range 300 {
		w := bits.NewWriter()
		var ids, events []string
		for range 5 {
			i, e := someID(rnd, 8), someEvent(rnd, 8)
			w.Put(2, 2)
			PutID(w, i)
			PutEvent(w, e)
			ids, events = append(ids, i.Text()), append(events, e.Text())
		}
		r := bits.NewReader(w.Bytes())
		for k := range ids {
			mark := r.Get(2)
			i, ei := GetID(r)
			e, ee := GetEvent(r)
			if mark != 2 || ei != api.OK || ee != api.OK || i.Text() != ids[k] || e.Text() != events[k] {
				t.Fatal(k, mark, i.Text(), ei, e.Text(), ee)
			}
		}
		if r.End() != api.OK {
			t.Fatal(r.Left())
		}
	}
}

// P7.2: all bits up to some length.
func TestGetAll(t *testing.T) {
	for length := range 17 {
		for all := range 1 << length {
			signs := fmt.Sprintf("%0*b", length, all)
			if length == 0 {
				signs = ""
			}
			mustGetID(t, signs)
			mustGetEvent(t, signs)
		}
	}
}

// P7.2: longer ones at random, and such as are nearly right.
func TestGetSome(t *testing.T) {
	rnd := rand.New(rand.NewSource(73))
	for range 30000 {
		signs := []byte(strings.Repeat("0", rnd.Intn(120)))
		for at := range signs {
			signs[at] += byte(rnd.Intn(2))
		}
		mustGetID(t, string(signs))
		mustGetEvent(t, string(signs))
	}
	for range 500 {
		for _, signs := range nearly(rnd, idSigns(someID(rnd, 0).Text())) {
			mustGetID(t, signs)
		}
		for _, signs := range nearly(rnd, eventSigns(someEvent(rnd, 0).Text())) {
			mustGetEvent(t, signs)
		}
	}
}

// nearly answers the signs themselves, with more behind them, cut, turned,
// without some, and with some twice.
func nearly(rnd *rand.Rand, signs string) []string {
	l := []string{signs, signs + "0110"}
	for range 6 {
		a := rnd.Intn(len(signs))
		b := a + rnd.Intn(min(12, len(signs)-a)) + 1
		turned := []byte(signs)
		turned[a] ^= 1
		l = append(l, signs[:a], string(turned), signs[:a]+signs[b:], signs[:b]+signs[a:])
	}
	return l
}

// told is signs, and the error that they are to be told by.
type told struct {
	signs string
	err   api.Errno
}

func repeat(signs string, n int) string { return strings.Repeat(signs, n) }

// P7.2: which error of an id is met first.
func TestIDErrors(t *testing.T) {
	deep := repeat("01", api.MaxDepth) // pairs within pairs, as deep as can be
	for _, x := range []told{
		{"", api.ErrForm},
		{"0", api.ErrForm},
		{"1", api.ErrForm},
		{"00", api.ErrForm},
		{"01", api.ErrForm},
		{"10" + "00", api.ErrForm},
		{"11" + "001", api.ErrForm},
		{"11" + "001" + "01", api.ErrForm},
		// Depth.
		{deep + "001", api.OK},
		{repeat("10", api.MaxDepth) + "001", api.OK},
		{deep + "01", api.ErrDeep},
		{deep + "10", api.ErrDeep},
		{deep + "11", api.ErrDeep},
		{deep + "01" + "001", api.ErrDeep},
		{repeat("10", api.MaxDepth) + "10", api.ErrDeep},
		{repeat("11", api.MaxDepth) + "11", api.ErrDeep},
		{"10" + deep + "001", api.ErrDeep},
		{deep, api.ErrForm},
		{deep + "0", api.ErrForm},
		{deep + "1", api.ErrForm},
		{deep + "00", api.ErrForm},
		// Other forms, told behind both halves.
		{"01" + "000", api.ErrForm},
		{"10" + "000", api.ErrForm},
		{"11" + "000" + "000", api.ErrForm},
		{"11" + "001" + "001", api.ErrForm},
		{"11" + "000" + "001", api.ErrForm},
		{"11" + "001" + "000", api.ErrForm},
		{"11" + "01001" + "000", api.ErrForm},
		{"11" + "000" + "01001", api.ErrForm},
		{"11" + "01001" + "01001", api.OK},
		{"11" + "000" + deep, api.ErrDeep},
		{"11" + "01000" + deep, api.ErrForm},
		{"11" + deep + "01000", api.ErrDeep},
		{deep + "000", api.ErrForm},
	} {
		mustGetID(t, x.signs)
		i, err := GetID(behind(t, x.signs))
		if err != x.err || err != api.OK && !i.IsZero() {
			t.Error(x.signs, i.Text(), err, "wanted", x.err)
		}
	}
}

// P7.2: which error of a tree is met first.
func TestEventErrors(t *testing.T) {
	deep := repeat("000", api.MaxDepth) // nodes within nodes, as deep as can be
	leaf := func(n uint64) string { return "1" + numSigns(n) }
	right := func(n uint64) string { return "01100" + numSigns(n) }
	left := func(n uint64) string { return "01101" + numSigns(n) }
	both := func(n uint64) string { return "0111" + numSigns(n) }
	above := leaf(api.MaxCount + 1)
	none := "1" + repeat("1", 63) + "0" + repeat("0", 65) // above 2^64 - 1
	for _, x := range []told{
		{"", api.ErrForm},
		{"0", api.ErrForm},
		{"1", api.ErrForm},
		{"00", api.ErrForm},
		{"000", api.ErrForm},
		{"011", api.ErrForm},
		{"0110", api.ErrForm},
		{"01100", api.ErrForm},
		{"0111", api.ErrForm},
		{"01110", api.ErrForm},
		{right(1), api.ErrForm},
		{both(1) + "000" + leaf(1), api.ErrForm},
		// Numbers.
		{leaf(api.MaxCount), api.OK},
		{above, api.ErrCount},
		{leaf(1<<64 - 1), api.ErrCount},
		{none, api.ErrForm},
		{above[:len(above)-1], api.ErrForm},
		{right(api.MaxCount + 1), api.ErrCount},
		{right(1<<64 - 1), api.ErrCount},
		{left(api.MaxCount + 1), api.ErrCount},
		{both(api.MaxCount + 1), api.ErrCount},
		{"01100" + none[1:], api.ErrForm},
		{"000" + above, api.ErrCount},
		// Depth.
		{deep + leaf(1), api.OK},
		{repeat("001", api.MaxDepth) + leaf(1), api.OK},
		{deep + "0", api.ErrDeep},
		{deep + "000", api.ErrDeep},
		{deep + "000" + leaf(1), api.ErrDeep},
		{repeat("010", api.MaxDepth) + "0", api.ErrDeep},
		{repeat(right(1), api.MaxDepth) + "0", api.ErrDeep},
		{deep, api.ErrForm},
		{deep + "1", api.ErrForm},
		{deep + above, api.ErrCount},
		// A base 0, told behind its number.
		{right(0), api.ErrForm},
		{right(0) + leaf(1), api.ErrForm},
		{right(0) + above, api.ErrForm},
		{right(0) + deep + "0", api.ErrForm},
		{left(0) + leaf(1), api.ErrForm},
		{left(0) + above, api.ErrForm},
		{both(0) + "000" + leaf(1) + leaf(1), api.ErrForm},
		{both(0) + above, api.ErrForm},
		{both(0) + deep + "0", api.ErrForm},
		// Other forms, told behind both halves.
		{"000" + leaf(0), api.ErrForm},
		{"001" + leaf(0), api.ErrForm},
		{"010" + leaf(0) + leaf(0), api.ErrForm},
		{"010" + leaf(0) + leaf(1), api.ErrForm},
		{"010" + leaf(1) + leaf(0), api.ErrForm},
		{"010" + leaf(1) + leaf(1), api.ErrForm},
		{"010" + leaf(1) + leaf(2), api.ErrForm},
		{"010" + "000" + leaf(1) + leaf(0), api.ErrForm},
		{"010" + leaf(0) + "000" + leaf(1), api.ErrForm},
		{"010" + "000" + leaf(1) + leaf(1), api.OK},
		{"010" + right(1) + leaf(1) + leaf(1), api.ErrForm},
		{"010" + right(1) + leaf(1) + right(2) + leaf(1), api.ErrForm},
		{"010" + "000" + leaf(1) + "000" + leaf(1), api.OK},
		{right(3) + leaf(0), api.ErrForm},
		{left(3) + leaf(0), api.ErrForm},
		{both(3) + leaf(0) + leaf(1), api.ErrForm},
		{both(3) + leaf(1) + leaf(0), api.ErrForm},
		{both(3) + leaf(1) + leaf(1), api.ErrForm},
		{both(3) + leaf(1) + leaf(2), api.ErrForm},
		{both(3) + right(1) + leaf(1) + leaf(1), api.ErrForm},
		{"010" + leaf(0) + above, api.ErrCount},
		{"010" + leaf(1) + deep, api.ErrDeep},
		{"010" + "000" + leaf(0) + deep, api.ErrForm},
		{"010" + "000" + leaf(0) + above, api.ErrForm},
		{"010" + above + "000" + leaf(0), api.ErrCount},
		// Heights, told behind both halves, and behind another form.
		{right(api.MaxCount) + leaf(1), api.ErrCount},
		{right(api.MaxCount-1) + leaf(1), api.OK},
		{left(1) + leaf(api.MaxCount), api.ErrCount},
		{left(api.MaxCount) + leaf(api.MaxCount), api.ErrCount},
		{right(api.MaxCount) + leaf(0), api.ErrForm},
		{both(api.MaxCount) + leaf(1) + leaf(1), api.ErrForm},
		{both(api.MaxCount) + leaf(1) + leaf(2), api.ErrForm},
		{both(api.MaxCount) + "000" + leaf(1) + leaf(1), api.ErrCount},
		{both(api.MaxCount) + "000" + leaf(1) + leaf(0), api.ErrForm},
		{both(api.MaxCount) + "000" + leaf(1), api.ErrForm},
		{both(1) + right(api.MaxCount) + leaf(1) + leaf(0), api.ErrCount},
		{both(1) + "000" + leaf(api.MaxCount) + leaf(0), api.ErrForm},
		{both(1) + "000" + leaf(api.MaxCount) + deep + "0", api.ErrDeep},
		{right(1) + right(api.MaxCount-1) + leaf(1), api.ErrCount},
	} {
		mustGetEvent(t, x.signs)
		e, err := GetEvent(behind(t, x.signs))
		if err != x.err || err != api.OK && e.Text() != "0" {
			t.Error(x.signs, e.Text(), err, "wanted", x.err)
		}
	}
}

// P7.2: the reader has its error where bits aren't there, or a number is none,
// and only there; and one that has an error reads nothing.
func TestReadersError(t *testing.T) {
	for signs, want := range map[string]api.Errno{
		"01":                               api.ErrForm,
		"01000":                            api.OK,
		repeat("01", api.MaxDepth+1):       api.OK,
		repeat("01", api.MaxDepth) + "0":   api.ErrForm,
		repeat("01", api.MaxDepth) + "001": api.OK,
	} {
		r := behind(t, signs)
		if GetID(r); r.Err() != want {
			t.Error(signs, r.Err())
		}
	}
	for signs, want := range map[string]api.Errno{
		"1":                                    api.ErrForm,
		"1" + numSigns(api.MaxCount+1):         api.OK,
		"1" + repeat("1", 63) + repeat("0", 9): api.ErrForm,
		"01100000":                             api.OK,
		"0001000":                              api.OK,
		repeat("000", api.MaxDepth) + "0":      api.OK,
	} {
		r := behind(t, signs)
		if GetEvent(r); r.Err() != want {
			t.Error(signs, r.Err())
		}
	}
	r := bits.NewReader([]byte{0x30})
	r.Get(9)
	if i, err := GetID(r); err != api.ErrForm || !i.IsZero() || r.Err() != api.ErrForm {
		t.Error(i.Text(), err)
	}
	r = bits.NewReader([]byte{0xa0})
	r.Get(9)
	if e, err := GetEvent(r); err != api.ErrForm || e.Text() != "0" || r.Err() != api.ErrForm {
		t.Error(e.Text(), err)
	}
}

// P1, P7.2: nil readers have no bits; nil writers take none.
func TestNil(t *testing.T) {
	if i, err := GetID(nil); err != api.ErrForm || !i.IsZero() {
		t.Error(i.Text(), err)
	}
	if e, err := GetEvent(nil); err != api.ErrForm || e.Text() != "0" {
		t.Error(e.Text(), err)
	}
	PutID(nil, idOf(t, "(1,(0,1))"))
	PutEvent(nil, eventOf(t, "(3,0,1)"))
	for _, p := range [][]byte{nil, {}} {
		i, ei := ReadID(p)
		e, ee := ReadEvent(p)
		s, es := ReadStamp(p)
		if ei != api.ErrForm || ee != api.ErrForm || es != api.ErrForm || !i.IsZero() || e.Text() != "0" || s.Text() != "(0;0)" {
			t.Error(i.Text(), ei, e.Text(), ee, s.Text(), es)
		}
	}
}

// P7.3: what is read is all there is, and, written again, the same bytes.
func TestReadAll(t *testing.T) {
	for size := 1; size <= 2; size++ {
		for all := range 1 << (8 * size) {
			p := []byte{byte(all), byte(all >> 8)}[:size]
			i, ei := ReadID(p)
			mustRead(t, p, i.Text(), ei, "id")
			e, ee := ReadEvent(p)
			mustRead(t, p, e.Text(), ee, "event")
			s, es := ReadStamp(p)
			mustRead(t, p, s.Text(), es, "stamp")
			if ei == api.OK && !bytes.Equal(ID(i), p) || ee == api.OK && !bytes.Equal(Event(e), p) || es == api.OK && !bytes.Equal(Stamp(s), p) {
				t.Fatalf("%08b", p)
			}
		}
	}
}

// mustRead asks that a Read has answered what the model does.
func mustRead(t *testing.T, p []byte, text string, err api.Errno, what string) {
	t.Helper()
	signs := ""
	for _, b := range p {
		signs += fmt.Sprintf("%08b", b)
	}
	m := &model{signs: signs}
	want, none := "", "0"
	switch what {
	case "id":
		want = m.id(0)
	case "event":
		want = m.event(0)
	case "stamp":
		want, none = "("+m.id(0), "(0;0)"
		want += ";" + m.event(0) + ")"
	}
	if len(m.signs) >= 8 || strings.Contains(m.signs, "1") {
		m.fail(api.ErrForm)
	}
	if m.err != api.OK {
		want = none
	}
	if err != m.err || text != want {
		t.Fatal(what, signs, text, err, "wanted", want, m.err)
	}
}

// P7.3: what is left behind is told last, and a stamp's id first.
func TestReadErrors(t *testing.T) {
	deep, above := repeat("01", api.MaxDepth+1), "1"+numSigns(api.MaxCount+1)
	for _, x := range []told{
		{"001" + "1000" + "0", api.OK},
		{"001" + "1000" + "1", api.ErrForm},
		{"001" + "1000" + repeat("0", 9), api.ErrForm},
		{"001" + above + repeat("1", 20), api.ErrCount},
		{"001" + repeat("000", api.MaxDepth) + "0" + repeat("1", 20), api.ErrDeep},
		{"01000" + above, api.ErrForm},
		{deep + above, api.ErrDeep},
		{"01001" + above, api.ErrCount},
		{"01001", api.ErrForm},
	} {
		if s, err := ReadStamp(packed(x.signs)); err != x.err || err != api.OK && s.Text() != "(0;0)" {
			t.Error(x.signs, s.Text(), err, "wanted", x.err)
		}
	}
	for _, x := range []told{
		{"001" + "00000", api.OK},
		{"001" + "00001", api.ErrForm},
		{"001" + "10000", api.ErrForm},
		{"001" + "00000" + "00000000", api.ErrForm},
		{deep + repeat("1", 30), api.ErrDeep},
	} {
		if i, err := ReadID(packed(x.signs)); err != x.err || err != api.OK && !i.IsZero() {
			t.Error(x.signs, i.Text(), err, "wanted", x.err)
		}
	}
	for _, x := range []told{
		{"1001" + "0000", api.OK},
		{"1001" + "0001", api.ErrForm},
		{"1001" + "0000" + "00000000", api.ErrForm},
		{above + repeat("1", 30), api.ErrCount},
	} {
		if e, err := ReadEvent(packed(x.signs)); err != x.err || err != api.OK && e.Text() != "0" {
			t.Error(x.signs, e.Text(), err, "wanted", x.err)
		}
	}
}

// Memory: what is handed in is not changed or kept, and each answer is new.
func TestMemory(t *testing.T) {
	s := stamp.Stamp{ID: idOf(t, "(1,(0,1))"), Event: eventOf(t, "(3,(0,0,1),(1,0,1))")}
	p := Stamp(s)
	was := bytes.Clone(p)
	got, err := ReadStamp(p)
	if err != api.OK || !bytes.Equal(p, was) {
		t.Fatal(err, p)
	}
	q := Stamp(s)
	p = p[:cap(p)]
	for at := range p {
		p[at] = 0xee
	}
	if !stamp.Same(got, s) || !bytes.Equal(q, was) || !bytes.Equal(Stamp(s), was) {
		t.Fatal(got.Text(), q)
	}
	for _, tell := range []func() []byte{func() []byte { return ID(s.ID) }, func() []byte { return Event(s.Event) }} {
		first, second := tell(), tell()
		was := bytes.Clone(second)
		first = first[:cap(first)]
		for at := range first {
			first[at] = 0xee
		}
		if !bytes.Equal(second, was) || !bytes.Equal(tell(), was) {
			t.Fatal(second)
		}
	}
}
