package card

import (
	"math"
	"math/rand"
	"reflect"
	"slices"
	"sort"
	"strconv"
	"strings"
	"testing"

	"kinfolk/api"
)

// mustMake answers the card of fields of which nothing is wrong.
func mustMake(t *testing.T, l ...Field) Card {
	t.Helper()
	c, err := Make(l)
	if err != api.OK {
		t.Fatal(l, err)
	}
	return c
}

// notes answers so many notes, all different, in their order.
func notes(n int) []Field {
	var l []Field
	for i := range n {
		l = append(l, Field{Note, "", "n" + strconv.Itoa(100000+i)})
	}
	return l
}

// subset answers those of l whose bits are set.
func subset[T any](l []T, bits int) []T {
	var some []T
	for i, v := range l {
		if bits>>i&1 == 1 {
			some = append(some, v)
		}
	}
	return some
}

// key answers signs that stand in the order of the fields.
func key(f Field) string { return string(rune('a'+f.Kind)) + f.Label + "\x00" + f.Value }

// inOrder answers fields of a model's map, in their order.
func inOrder(m map[Field]bool) []Field {
	var l []Field
	for f := range m {
		l = append(l, f)
	}
	sort.Slice(l, func(i, j int) bool { return key(l[i]) < key(l[j]) })
	return l
}

func setOf(l []Field) map[Field]bool {
	m := map[Field]bool{}
	for _, f := range l {
		m[f] = true
	}
	return m
}

// few are fields of some kinds that differ in each part.
func few() []Field {
	return []Field{
		{Group, "", "x"}, {Name, "b", "Ann"}, {Phone, "", "12"}, {Name, "", "Bob"}, {Phone, "", "1"}, {Name, "b", "Al"},
	}
}

// mustHave asks what a card tells, by the fields that it should have.
func mustHave(t *testing.T, c Card, want []Field) {
	t.Helper()
	if !slices.Equal(c.Fields(), want) || c.Len() != len(want) {
		t.Fatalf("%v, %d; wanted %v", c.Fields(), c.Len(), want)
	}
	title := ""
	if len(want) > 0 {
		title = want[0].Value
	}
	for _, f := range want {
		if f.Kind == Name {
			title = f.Value
			break
		}
	}
	if c.Title() != title {
		t.Fatalf("%v: %q, wanted %q", want, c.Title(), title)
	}
	for _, kind := range []int{math.MinInt, -1, 0, 1, 2, 3, 4, 5, 6, 7, 257, math.MaxInt} {
		var some []Field
		for _, f := range want {
			if f.Kind == kind {
				some = append(some, f)
			}
		}
		if got := c.Of(kind); !slices.Equal(got, some) {
			t.Fatalf("%d: %v, wanted %v", kind, got, some)
		}
	}
}

// P9.2: the document's example, and by hand.
func TestMakeNamed(t *testing.T) {
	if c := mustMake(t, Field{Phone, "", "12"}, Field{Name, "", "Ann"}); c.Title() != "Ann" || c.Len() != 2 {
		t.Fatal(c.Fields())
	}
	for title, l := range map[string][]Field{
		"":      nil,
		"12":    {{Mail, "", "a@b.c"}, {Phone, "", "12"}},
		"x":     {{Group, "", "x"}},
		"Zoe":   {{Note, "", "a"}, {Name, "a", "Zoe"}, {Name, "b", "Ann"}, {Address, "", "b"}},
		"a@b.c": {{Note, "", "z"}, {Mail, "", "a@b.c"}},
	} {
		if c := mustMake(t, l...); c.Title() != title {
			t.Fatal(title, c.Title())
		}
	}
	mustHave(t, Card{}, nil)
	mustHave(t, mustMake(t), nil)
	mustHave(t, mustMake(t, []Field{}...), nil)
	if !Same(Card{}, mustMake(t)) {
		t.Fatal("none")
	}
}

// P9.2: all rows of a few fields, however often and in whichever order.
func TestMakeAll(t *testing.T) {
	rows := [][]Field{nil}
	for at := 0; len(rows[at]) < 5; at++ {
		for _, f := range few() {
			rows = append(rows, append(slices.Clone(rows[at]), f))
		}
	}
	for _, l := range rows {
		mustHave(t, mustMake(t, l...), inOrder(setOf(l)))
	}
}

// P9.2: how many there may be, each counted once.
func TestMakeFull(t *testing.T) {
	for n := range 12 {
		for _, times := range []int{1, 2, 50} {
			var l []Field
			for range times {
				l = append(l, notes(n)...)
			}
			slices.Reverse(l)
			c, err := Make(l)
			if n > 8 {
				if err != api.ErrFull || !Same(c, Card{}) {
					t.Fatal(n, times, err)
				}
				continue
			}
			if err != api.OK {
				t.Fatal(n, times, err)
			}
			mustHave(t, c, notes(n))
		}
	}
	// The ninth may come late.
	l := append(slices.Repeat(notes(8), 10000), Field{Name, "", "Ann"})
	if c, err := Make(l); err != api.ErrFull || c.Len() != 0 {
		t.Fatal(err)
	}
	if c, err := Make(l[:len(l)-1]); err != api.OK || c.Len() != 8 {
		t.Fatal(err)
	}
}

// P9.2: the first one's error, ahead of there being too many.
func TestMakeErrors(t *testing.T) {
	noKind, noText, tooLong := Field{7, "", "a"}, Field{Name, "", ""}, Field{Name, "", strings.Repeat("a", 41)}
	good := Field{Name, "", "Ann"}
	for _, x := range []struct {
		l    []Field
		want api.Errno
	}{
		{[]Field{noKind}, api.ErrArg},
		{[]Field{good, noKind}, api.ErrArg},
		{[]Field{tooLong, noText, noKind}, api.ErrLong},
		{[]Field{noText, noKind, tooLong}, api.ErrText},
		{[]Field{good, tooLong, good, noKind}, api.ErrLong},
		{[]Field{{}}, api.ErrArg},
		{append(notes(20), noText, noKind), api.ErrText},
		{append([]Field{tooLong}, notes(20)...), api.ErrLong},
		{append(notes(9), good), api.ErrFull},
	} {
		if c, err := Make(x.l); err != x.want || !Same(c, Card{}) || c.Len() != 0 {
			t.Fatal(x.l, err, c.Fields())
		}
	}
}

// P9.2: the same fields, and no others.
func TestSame(t *testing.T) {
	all := few()
	for a := range 1 << len(all) {
		for b := range 1 << len(all) {
			back := subset(all, b)
			slices.Reverse(back)
			if Same(mustMake(t, subset(all, a)...), mustMake(t, back...)) != (a == b) {
				t.Fatal(a, b)
			}
		}
	}
	one := Field{Name, "a", "b"}
	for _, other := range []Field{{Note, "a", "b"}, {Name, "", "b"}, {Name, "a", "B"}, {Name, "b", "a"}, {Name, "", "ab"}} {
		if Same(mustMake(t, one), mustMake(t, other)) {
			t.Fatal(other)
		}
	}
}

// scrub writes over a list, its spare room too.
func scrub(l []Field) {
	l = l[:cap(l)]
	for i := range l {
		l[i] = Field{Group, "x", "scrubbed"}
	}
}

// roomy answers l with spare room, and a look at the whole of it.
func roomy(l []Field) ([]Field, []Field) {
	whole := append(slices.Clone(l), slices.Repeat([]Field{{9, "spare", "spare"}}, 20)...)
	return whole[:len(l)], whole
}

// What is handed in isn't changed and isn't kept; answers are new memory.
func TestMakeMemory(t *testing.T) {
	want := inOrder(setOf(few()))
	for n := range 4 {
		l, whole := roomy(slices.Repeat(few(), n))
		before := slices.Clone(whole)
		c := mustMake(t, l...)
		if !slices.Equal(whole, before) {
			t.Fatal("changed", whole)
		}
		scrub(whole)
		if n == 0 {
			mustHave(t, c, nil)
			continue
		}
		mustHave(t, c, want)
		copied := c
		for _, l := range [][]Field{c.Fields(), c.Of(Name), c.Of(Phone), copied.Fields()} {
			scrub(l)
			mustHave(t, c, want)
			mustHave(t, copied, want)
		}
	}
}

// P1, P2: any fields, and the same again.
func TestAnyFields(t *testing.T) {
	rnd := rand.New(rand.NewSource(9))
	anyText := func() string {
		p := make([]byte, rnd.Intn(4))
		rnd.Read(p)
		return string(p)
	}
	for range 20000 {
		var l []Field
		for range rnd.Intn(12) {
			f := Field{rnd.Intn(9) - 1, anyText(), anyText()}
			if rnd.Intn(8) > 0 {
				f = few()[rnd.Intn(6)]
			}
			l = append(l, f)
		}
		a, err := Make(l)
		b, again := Make(l)
		if err != again || !Same(a, b) || !reflect.DeepEqual(a.Fields(), b.Fields()) || err != api.OK && a.Len() != 0 {
			t.Fatal(l)
		}
		p := Patch{Adds: l, Drops: l, Clear: []int{rnd.Intn(9) - 1}}
		a, err = mustMake(t, few()...).Patch(p)
		b, again = mustMake(t, few()...).Patch(p)
		if err != again || !Same(a, b) || err != api.OK && a.Len() != 6 {
			t.Fatal(p)
		}
	}
}
