package card

import (
	"math"
	"math/rand"
	"slices"
	"strings"
	"testing"

	"kinfolk/api"
)

// patched answers what a patch makes of fields, by the document's words, and
// its error; the adds are Right.
func patched(l []Field, p Patch) ([]Field, api.Errno) {
	adds := setOf(p.Adds)
	m := map[Field]bool{}
	for _, f := range l {
		cleared := slices.Contains(p.Clear, f.Kind)
		dropped := slices.Contains(p.Drops, f)
		if !cleared && !dropped {
			m[f] = true
		}
	}
	for f := range adds {
		m[f] = true
	}
	if len(m) > api.MaxFields {
		return l, api.ErrFull
	}
	return inOrder(m), api.OK
}

func mustPatch(t *testing.T, l []Field, p Patch) {
	t.Helper()
	c := mustMake(t, l...)
	want, err := patched(inOrder(setOf(l)), p)
	got, e := c.Patch(p)
	if e != err {
		t.Fatalf("%v: %v: %d, wanted %d", l, p, e, err)
	}
	mustHave(t, got, want)
	mustHave(t, c, inOrder(setOf(l)))
}

// P9.3: all cards of a few fields, by all patches of them.
func TestPatchAll(t *testing.T) {
	all := []Field{{Name, "", "Ann"}, {Phone, "", "12"}, {Name, "b", "Al"}, {Group, "", "x"}}
	clears := [][]int{nil, {}, {Name}, {Phone, Phone}, {Group, Name}, {1, 2, 3, 4, 5, 6}, {Mail, 0, -1, 7, 99, math.MaxInt, math.MinInt}}
	for has := range 1 << len(all) {
		for adds := range 1 << len(all) {
			for drops := range 1 << len(all) {
				for _, kinds := range clears {
					mustPatch(t, subset(all, has), Patch{subset(all, adds), subset(all, drops), kinds})
				}
			}
		}
	}
}

// P9.3: by hand.
func TestPatchNamed(t *testing.T) {
	ann, bob, one := Field{Name, "", "Ann"}, Field{Name, "", "Bob"}, Field{Phone, "", "1"}
	c := mustMake(t, ann, one)
	for _, x := range []struct {
		p    Patch
		want []Field
	}{
		{Patch{}, []Field{ann, one}},
		{Patch{Adds: []Field{bob, bob}}, []Field{ann, bob, one}},
		{Patch{Adds: []Field{ann}}, []Field{ann, one}},
		{Patch{Drops: []Field{ann}}, []Field{one}},
		{Patch{Drops: []Field{bob, {}, {99, "\xff", ""}}}, []Field{ann, one}},
		{Patch{Drops: []Field{{Name, "a", "Ann"}, {Note, "", "Ann"}, {Name, "", "An"}}}, []Field{ann, one}},
		{Patch{Clear: []int{Name}}, []Field{one}},
		{Patch{Clear: []int{0, -5, 7, 1 << 40}}, []Field{ann, one}},
		{Patch{Adds: []Field{ann}, Drops: []Field{ann}, Clear: []int{Name}}, []Field{ann, one}}, // adds come last
		{Patch{Adds: []Field{bob}, Clear: []int{Name, Phone}}, []Field{bob}},
		{Patch{Drops: []Field{ann, one}}, nil},
	} {
		got, err := c.Patch(x.p)
		if err != api.OK {
			t.Fatal(x.p, err)
		}
		mustHave(t, got, x.want)
	}
	got, err := Card{}.Patch(Patch{Adds: []Field{one, ann}, Drops: []Field{one}, Clear: []int{1}})
	if err != api.OK {
		t.Fatal(err)
	}
	mustHave(t, got, []Field{ann, one})
}

// P9.3: how many there may be, behind what is left out.
func TestPatchFull(t *testing.T) {
	l := notes(20)
	for has := range 9 {
		for from := range 12 {
			for to := from; to <= 8+from && to <= 20; to++ {
				for drops := range 5 {
					mustPatch(t, l[:has], Patch{Adds: l[from:to], Drops: l[:drops]})
				}
				mustPatch(t, l[:has], Patch{Adds: l[from:to], Clear: []int{Note}})
				mustPatch(t, l[:has], Patch{Adds: l[from:to], Clear: []int{Name}})
			}
		}
	}
}

// P9.3: an error of the adds is ahead, and leaves the card itself.
func TestPatchErrors(t *testing.T) {
	good := Field{Name, "", "Ann"}
	noKind, noText, tooLong := Field{9, "", "a"}, Field{Note, "", " a"}, Field{Note, strings.Repeat("a", 13), "a"}
	eight := notes(8)
	for _, x := range []struct {
		p    Patch
		want api.Errno
	}{
		{Patch{Adds: []Field{noKind}}, api.ErrArg},
		{Patch{Adds: []Field{good, noText, noKind}, Clear: []int{Note}}, api.ErrText},
		{Patch{Adds: []Field{tooLong, noKind}, Drops: eight}, api.ErrLong},
		{Patch{Adds: append(notes(9), noText)}, api.ErrText},
		{Patch{Adds: notes(9), Clear: []int{Note}}, api.ErrFull},
		{Patch{Adds: notes(9), Drops: notes(9)}, api.ErrFull},
		{Patch{Adds: []Field{good}}, api.ErrFull},
		{Patch{Adds: []Field{good}, Drops: []Field{good}, Clear: []int{Name}}, api.ErrFull},
		{Patch{Adds: []Field{good, noKind}}, api.ErrArg},
		// What is left out may be anything.
		{Patch{Adds: []Field{good}, Drops: []Field{noKind, noText, tooLong, eight[3]}}, api.OK},
		{Patch{Adds: eight}, api.OK},
		{Patch{Adds: slices.Repeat(eight, 100)}, api.OK},
		{Patch{Drops: slices.Repeat([]Field{noKind}, 1000), Clear: slices.Repeat([]int{77}, 1000)}, api.OK},
	} {
		c := mustMake(t, eight...)
		got, err := c.Patch(x.p)
		if err != x.want || err != api.OK && !Same(got, c) || c.Len() != 8 {
			t.Fatal(x.p, err, got.Fields())
		}
		mustHave(t, c, eight)
		if err != api.OK {
			mustHave(t, got, eight)
		}
	}
	if c, err := (Card{}).Patch(Patch{Adds: []Field{{}}}); err != api.ErrArg || c.Len() != 0 {
		t.Fatal(err)
	}
}

// P9.3: of all two cards of a few fields, and of full ones.
func TestDiff(t *testing.T) {
	all := few()
	for a := range 1 << len(all) {
		for b := range 1 << len(all) {
			mustDiff(t, subset(all, a), subset(all, b))
		}
	}
	l := notes(16)
	mustDiff(t, l[:8], l[8:])
	mustDiff(t, l[:8], l[4:12])
	mustDiff(t, l[:8], nil)
	mustDiff(t, nil, l[:8])
}

func mustDiff(t *testing.T, l, m []Field) {
	t.Helper()
	a, b := mustMake(t, l...), mustMake(t, m...)
	p := Diff(a, b)
	adds, drops := setOf(m), setOf(l)
	for _, f := range l {
		delete(adds, f)
	}
	for _, f := range m {
		delete(drops, f)
	}
	if !slices.Equal(p.Adds, inOrder(adds)) || !slices.Equal(p.Drops, inOrder(drops)) || len(p.Clear) != 0 {
		t.Fatal(l, m, p)
	}
	if got, err := a.Patch(p); err != api.OK || !Same(got, b) {
		t.Fatal(l, m, got.Fields(), err)
	}
}

// What is handed in isn't changed and isn't kept; answers are new memory.
func TestPatchMemory(t *testing.T) {
	rnd := rand.New(rand.NewSource(10))
	all := append(few(), notes(6)...)
	for range 2000 {
		c, d := mustMake(t, subset(all, rnd.Intn(1<<8))...), mustMake(t, subset(all, rnd.Intn(1<<8))...)
		has, other := c.Fields(), d.Fields()
		adds, wholeAdds := roomy(subset(all, rnd.Intn(1<<10)))
		drops, wholeDrops := roomy(subset(all, rnd.Intn(1<<12)))
		kinds := append([]int{rnd.Intn(8)}, 5, 6, 7)[:rnd.Intn(3)]
		wholeClear := kinds[:4]
		before, beforeDrops, beforeClear := slices.Clone(wholeAdds), slices.Clone(wholeDrops), slices.Clone(wholeClear)
		got, _ := c.Patch(Patch{adds, drops, kinds})
		if !slices.Equal(wholeAdds, before) || !slices.Equal(wholeDrops, beforeDrops) || !slices.Equal(wholeClear, beforeClear) {
			t.Fatal("changed")
		}
		want := got.Fields()
		scrub(wholeAdds)
		scrub(wholeDrops)
		mustHave(t, got, want)
		p := Diff(c, d)
		again := Diff(c, d)
		scrub(p.Adds)
		if !slices.Equal(p.Drops, again.Drops) {
			t.Fatal("shared")
		}
		scrub(p.Drops)
		scrub(got.Fields())
		mustHave(t, got, want)
		mustHave(t, c, has)
		mustHave(t, d, other)
	}
}
