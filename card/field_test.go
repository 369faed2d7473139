package card

import (
	"math"
	"slices"
	"strings"
	"testing"

	"kinfolk/api"
	"kinfolk/text"
)

// P9.1: the kinds, and their names.
func TestKindName(t *testing.T) {
	if Name != 1 || Phone != 2 || Mail != 3 || Address != 4 || Note != 5 || Group != 6 {
		t.Fatal("kinds")
	}
	want := map[int]string{1: "name", 2: "phone", 3: "mail", 4: "address", 5: "note", 6: "group"}
	kinds := []int{math.MinInt, math.MinInt + 1, -1 << 32, 1 << 32, 1<<32 + 1, math.MaxInt - 1, math.MaxInt}
	for kind := -300; kind < 1000; kind++ {
		kinds = append(kinds, kind)
	}
	for _, kind := range kinds {
		if got := KindName(kind); got != want[kind] {
			t.Fatal(kind, got)
		}
	}
}

// P9.1: by hand.
func TestRightNamed(t *testing.T) {
	twelve, forty := strings.Repeat("l", 12), strings.Repeat("v", 40)
	for _, x := range []struct {
		f    Field
		want api.Errno
	}{
		{Field{Name, "", "Ann"}, api.OK},
		{Field{Name, "first", "Ann Lee"}, api.OK},
		{Field{Name, " two  blanks ", "Ann"}, api.ErrLong},
		{Field{Name, " a  b ", "Ann"}, api.OK}, // a label needn't be its own Fold
		{Field{Name, twelve, forty}, api.OK},
		{Field{Name, twelve + "l", forty}, api.ErrLong},
		{Field{Name, twelve, forty + "v"}, api.ErrLong},
		{Field{Name, strings.Repeat("é", 6), strings.Repeat("é", 20)}, api.OK},
		{Field{Name, strings.Repeat("é", 7), "a"}, api.ErrLong},
		{Field{Name, "", strings.Repeat("é", 21)}, api.ErrLong},
		{Field{Name, "", ""}, api.ErrText},
		{Field{Name, "", " "}, api.ErrText},
		{Field{Name, "", " Ann"}, api.ErrText},
		{Field{Name, "", "Ann "}, api.ErrText},
		{Field{Name, "", "Ann  Lee"}, api.ErrText},
		{Field{Name, "", "Ann\nLee"}, api.ErrText},
		{Field{Name, "\x7f", "Ann"}, api.ErrText},
		{Field{Name, "", "\xff"}, api.ErrText},
		{Field{Phone, "", "+49 30-1"}, api.OK},
		{Field{Phone, "", "30/1"}, api.ErrText},
		{Field{Phone, "", "-"}, api.ErrText},
		{Field{Phone, "", "1  2"}, api.ErrText}, // a phone's number, but not its own Fold
		{Field{Phone, "", "1 "}, api.ErrText},
		{Field{Phone, "", strings.Repeat("1", 20)}, api.OK},
		{Field{Phone, "", strings.Repeat("1", 21)}, api.ErrText},
		{Field{Phone, "", strings.Repeat("1", 41)}, api.ErrLong},
		{Field{Phone, "", "a@b.c"}, api.ErrText},
		{Field{Mail, "", "a@b.c"}, api.OK},
		{Field{Mail, "", "a@b"}, api.ErrText},
		{Field{Mail, "", "12"}, api.ErrText},
		{Field{Mail, "", "a@b." + strings.Repeat("c", 36)}, api.OK},
		{Field{Mail, "", "a@b." + strings.Repeat("c", 37)}, api.ErrLong},
		{Field{Address, "", "a@b"}, api.OK},
		{Field{Note, "", "-"}, api.OK},
		{Field{Group, "", "+"}, api.OK},
		{Field{0, "", "Ann"}, api.ErrArg},
		{Field{7, "", "Ann"}, api.ErrArg},
		{Field{-1, "", "Ann"}, api.ErrArg},
		{Field{257, "", "Ann"}, api.ErrArg},
		{Field{math.MinInt, "", "Ann"}, api.ErrArg},
		{Field{math.MaxInt, "", "Ann"}, api.ErrArg},
		{Field{7, twelve + "l", "\xff"}, api.ErrArg},
		{Field{Name, "\x01", forty + "v"}, api.ErrText}, // the label's error is ahead
		{Field{Name, twelve + "l", "\x01"}, api.ErrLong},
		{Field{Name, twelve + "\x01", "a"}, api.ErrLong},
		{Field{}, api.ErrArg},
	} {
		if err := x.f.Right(); err != x.want {
			t.Errorf("%+v: %d, wanted %d", x.f, err, x.want)
		}
	}
}

// P9.1: each kind with each label and each value, by the document's words.
func TestRightAll(t *testing.T) {
	values := []string{"", "a", " a", "a ", "a b", "a  b", "\x1f", "\x7f", "\xff", "é", "\u0080", "12", "1 2", "1  2", " 1", "+1", "1+", "-", "a@b.c", "a @b.c", "@b.c", "a@b", "é@b.c", "a@b.é",
		strings.Repeat("1", 20), strings.Repeat("1", 21), strings.Repeat("x", 39), strings.Repeat("x", 40), strings.Repeat("x", 41), strings.Repeat("\xff", 40), strings.Repeat("\xff", 41), strings.Repeat(" ", 41), strings.Repeat("x", 1<<16)}
	labels := []string{"", "a", " ", " a  b ", "\x00", "\xff", "é", strings.Repeat("x", 11), strings.Repeat("x", 12), strings.Repeat("x", 13), strings.Repeat("\xff", 12), strings.Repeat("\xff", 13), strings.Repeat("x", 1<<16)}
	for kind := -2; kind < 10; kind++ {
		for _, label := range labels {
			for _, value := range values {
				want := api.OK
				if value == "" || text.Fold(value) != value || kind == 2 && !text.Phone(value) || kind == 3 && !text.Mail(value) {
					want = api.ErrText
				}
				if err := text.Check(value, 40); err != api.OK {
					want = err
				}
				if err := text.Check(label, 12); err != api.OK {
					want = err
				}
				if kind < 1 || kind > 6 {
					want = api.ErrArg
				}
				if err := (Field{kind, label, value}).Right(); err != want {
					t.Fatalf("%d %.20q %.50q: %d, wanted %d", kind, label, value, err, want)
				}
			}
		}
	}
}

// P9.2: in this list each is less than all behind it, and than no other.
func TestLess(t *testing.T) {
	var l []Field
	texts := []string{"", "\x00", "A", "AA", "Aa", "B", "a", "ab", "b", "\u007f", "\xc3", "é", "日", "\U0001f600", "\xff", "\xff\xff"}
	for _, kind := range []int{math.MinInt, -1, 0, 1, 2, 10, math.MaxInt} {
		for _, label := range texts {
			for _, value := range texts {
				l = append(l, Field{kind, label, value})
			}
		}
	}
	for i, a := range l {
		for j, b := range l {
			if Less(a, b) != (i < j) {
				t.Fatalf("%+v %+v", a, b)
			}
		}
	}
}

// Fields are values that can be compared, and a list's order is Less.
func TestFieldsSorted(t *testing.T) {
	a, b := Field{Name, "a", "b"}, Field{Name, "a", "b"}
	if a != b || Less(a, b) || Less(b, a) {
		t.Fatal("the same")
	}
	l := mustMake(t, few()...).Fields()
	if !slices.IsSortedFunc(l, func(a, b Field) int {
		if Less(a, b) {
			return -1
		}
		return 1
	}) {
		t.Fatal(l)
	}
}
