package text

import (
	"math"
	"math/rand"
	"regexp"
	"strings"
	"testing"

	"kinfolk/api"
)

// all answers all texts of at most most of these parts.
func all(parts []string, most int) []string {
	l := []string{""}
	for from := 0; most > 0; most-- {
		end := len(l)
		for _, s := range l[from:end] {
			for _, part := range parts {
				l = append(l, s+part)
			}
		}
		from = end
	}
	return l
}

// bytesOf answers each byte as a text.
func bytesOf() []string {
	var l []string
	for b := range 256 {
		l = append(l, string([]byte{byte(b)}))
	}
	return l
}

// sign answers the four forms in which UTF-8 could tell a number, the shorter
// of them empty where it has no room.
func sign(n int) [4]string {
	tail := func(shift int) byte { return 0x80 | byte(n>>shift)&0x3f }
	var l [4]string
	if n < 0x80 {
		l[0] = string([]byte{byte(n)})
	}
	if n < 0x800 {
		l[1] = string([]byte{0xc0 | byte(n>>6), tail(0)})
	}
	if n < 0x10000 {
		l[2] = string([]byte{0xe0 | byte(n>>12), tail(6), tail(0)})
	}
	l[3] = string([]byte{0xf0 | byte(n>>18), tail(12), tail(6), tail(0)})
	return l
}

// mayBe says whether the document lets a number be a sign that is written.
func mayBe(n int) bool {
	pair := n >= 0xd800 && n <= 0xdfff
	return n >= 0x20 && n != 0x7f && n <= 0x10ffff && !pair
}

// P8.1: each number, in each form.
func TestCheckSigns(t *testing.T) {
	for n := range 1 << 21 {
		shortest := true
		for _, s := range sign(n) {
			if s == "" {
				continue
			}
			want := api.ErrText
			if shortest && mayBe(n) {
				want = api.OK
			}
			if err := Check(s, 4); err != want {
				t.Fatalf("%x: %x: %d", n, s, err)
			}
			shortest = false
		}
	}
}

// P8.1: a byte that is no sign, anywhere.
func TestCheckBroken(t *testing.T) {
	for _, bad := range []string{"\x80", "\xbf", "\xc3", "\xe6\x97", "\xe6", "\xf0\x9f\x98", "\xff", "\xfe", "\x00", "\n", "\t", "\x1f", "\x7f", "\xc0\xa0", "\xed\xa0\xbd\xed\xb8\x80", "\xf4\x90\x80\x80", "\xf8\x88\x80\x80\x80"} {
		for _, s := range []string{bad, "a" + bad, bad + "a", "é" + bad + "日", bad + bad} {
			if err := Check(s, len(s)); err != api.ErrText {
				t.Errorf("%q: %d", s, err)
			}
		}
	}
	for _, s := range []string{"", " ", "~", "é日", "\u0080", "\u009f", "\u00a0", "\ufffd", "\ufeff", "\U0010ffff", "a b", "\"\\;"} {
		if err := Check(s, len(s)); err != api.OK {
			t.Errorf("%q: %d", s, err)
		}
	}
}

// P8.1: how long it may be, which is told ahead of what stands in it.
func TestCheckLong(t *testing.T) {
	for _, x := range []struct {
		s    string
		most int
		want api.Errno
	}{
		{"", 0, api.OK}, {"", -1, api.ErrLong}, {"", math.MinInt, api.ErrLong}, {"", math.MaxInt, api.OK},
		{"a", 0, api.ErrLong}, {"a", 1, api.OK}, {"a", -1, api.ErrLong}, {"a", math.MaxInt, api.OK},
		{"12345", 5, api.OK}, {"123456", 5, api.ErrLong},
		{"é", 1, api.ErrLong}, {"é", 2, api.OK}, {"日", 2, api.ErrLong}, {"日", 3, api.OK},
		{"\x00", 0, api.ErrLong}, {"\x00", 1, api.ErrText}, {"\xff\xff", 1, api.ErrLong}, {"\xff\xff", 2, api.ErrText},
		{strings.Repeat("a", 1<<16), 1 << 16, api.OK}, {strings.Repeat("a", 1<<16), 1<<16 - 1, api.ErrLong},
	} {
		if err := Check(x.s, x.most); err != x.want {
			t.Errorf("%.20q, %d: %d, wanted %d", x.s, x.most, err, x.want)
		}
	}
}

// P8.1: signs, and bytes that are none.
func TestRunes(t *testing.T) {
	for s, want := range map[string]int{
		"": 0, "a": 1, " ": 1, "\x00": 1, "é": 1, "é日": 2, "é日\xff": 3, "😀": 1, "e\u0301": 2,
		"\xff": 1, "\xff\xff": 2, "\xc0\x80": 2, "\xed\xa0\x80": 3, "\xf4\x90\x80\x80": 4,
		"\xe6\x97": 2, "\xe6\x97a": 3, "a\xc3": 2, "\xf0\x9f\x98": 3, "\ufffd": 1, "\r\n": 2,
	} {
		if n := Runes(s); n != want {
			t.Errorf("%q: %d, wanted %d", s, n, want)
		}
	}
	// Each sign counts as one, whatever stands beside it.
	parts := []string{"a", "é", "日", "😀", "\xff", "\xc0"}
	for _, s := range all(parts, 5) {
		want, rest := 0, s
		for rest != "" {
			for _, part := range parts {
				if strings.HasPrefix(rest, part) {
					rest = rest[len(part):]
					break
				}
			}
			want++
		}
		if n := Runes(s); n != want {
			t.Fatalf("%q: %d, wanted %d", s, n, want)
		}
	}
}

// P8.1: blanks alone, and nothing else, whatever it is.
func TestFold(t *testing.T) {
	for s, want := range map[string]string{
		"": "", " ": "", "   ": "", "a": "a", " a": "a", "a ": "a", "  a   b ": "a b", "a b": "a b",
		"\ta  \n b": "\ta \n b", "\u00a0 \u00a0": "\u00a0 \u00a0", "\u3000a": "\u3000a",
		"\xff  \xff ": "\xff \xff", "é  日": "é 日", "a  \x00": "a \x00",
	} {
		if got := Fold(s); got != want {
			t.Errorf("%q: %q, wanted %q", s, got, want)
		}
	}
	for _, s := range all([]string{" ", "a", "\t", "é", "\xff"}, 6) {
		want := s
		for strings.Contains(want, "  ") {
			want = strings.ReplaceAll(want, "  ", " ")
		}
		want = strings.Trim(want, " ")
		if Fold(s) != want || Fold(want) != want {
			t.Fatalf("%q: %q, wanted %q", s, Fold(s), want)
		}
	}
}

// P8.2: by hand.
func TestPhoneNamed(t *testing.T) {
	for s, want := range map[string]bool{
		"+49 30-1": true, "1": true, "0": true, "9": true, "+1": true, " 1": true, "-1": true, "1-": true, "1 ": true, "+ 1": true, "+-1": true,
		"": false, "+": false, " ": false, "-": false, "+-": false, "- -": false, "1+": false, " +1": false, "++1": false, "-+1": false,
		"1a": false, "a": false, "1/2": false, "1.2": false, "(1)": false, "1\t2": false, "1\n": false, "1\x00": false, ":1": false, "1,2": false,
		"1\u00a02": false, "\u0661": false, "1\u0662": false, "1\xff": false, "\xff": false, "１": false, "1–2": false,
	} {
		if got := Phone(s); got != want {
			t.Errorf("%q: %v", s, got)
		}
	}
	for n := range 45 {
		for s, want := range map[string]bool{
			strings.Repeat("1", n):          n >= 1 && n <= 20,
			"+" + strings.Repeat("1", n):    n >= 1 && n <= 19,
			strings.Repeat(" ", n) + "1":    n <= 19,
			strings.Repeat("-", n):          false,
			strings.Repeat("é", n) + "1":    n == 0,
			"1" + strings.Repeat("\xff", n): n == 0,
			strings.Repeat("1 ", n):         n >= 1 && n <= 10,
		} {
			if got := Phone(s); got != want {
				t.Errorf("%q: %v", s, got)
			}
		}
	}
}

// P8.2: all short ones.
func TestPhoneAll(t *testing.T) {
	form := regexp.MustCompile(`^[+0-9 -][0-9 -]*$`)
	for _, s := range append(all([]string{"+", "-", " ", "0", "9", "5", "a", "/", ":", "é"}, 5), all(bytesOf(), 2)...) {
		want := form.MatchString(s) && strings.ContainsAny(s, "0123456789")
		if got := Phone(s); got != want {
			t.Fatalf("%q: %v", s, got)
		}
	}
}

// P8.2: by hand.
func TestMailNamed(t *testing.T) {
	long := strings.Repeat("a", 1000)
	for s, want := range map[string]bool{
		"a@b.c": true, ".a@b.c": true, "a.@b.c": true, "a@b..c": true, "a@b.c.d": true, "!@~.~": true, ".@a.b": true, "\"@;.\\": true, long + "@" + long + "." + long: true,
		"": false, "@": false, "a": false, "a@": false, "@b.c": false, "a@b": false, "a@.bc": false, "a@bc.": false, "a@.": false, "a@..": false, "a@...": false, "a.b@c": false, "a.b": false,
		"a@@b.c": false, "a@b@c.d": false, "a@b.c@": false, "@a@b.c": false, "a@b.@c": false, "a@.b.c": false, "a@b.c.": false,
		"a b@c.d": false, "a@b c.d": false, " a@b.c": false, "a@b.c ": false, "a@b.c\n": false, "a@b.\x7fc": false, "\x7f@b.c": false, "a@b.\x00c": false,
		"é@b.c": false, "a@é.c": false, "a@b.\xff": false, "\x80@b.c": false,
	} {
		if got := Mail(s); got != want {
			t.Errorf("%.40q: %v", s, got)
		}
	}
}

// P8.2: all short ones, and each byte in each part.
func TestMailAll(t *testing.T) {
	for _, s := range all([]string{"a", "@", ".", "~", " ", "é"}, 7) {
		mustMail(t, s)
	}
	for _, b := range bytesOf() {
		for _, s := range []string{b + "@b.c", "a" + b + "@b.c", "a@" + b + ".c", "a@b." + b, "a@b" + b + "c", b} {
			mustMail(t, s)
		}
	}
}

func mustMail(t *testing.T, s string) {
	t.Helper()
	parts := strings.Split(s, "@")
	want := len(parts) == 2 && parts[0] != "" && strings.Contains(strings.Trim(parts[1], "."), ".") && strings.Trim(parts[1], ".") == parts[1]
	for at := range len(s) {
		want = want && s[at] >= 0x21 && s[at] <= 0x7e
	}
	if got := Mail(s); got != want {
		t.Fatalf("%q: %v", s, got)
	}
}

// P1, P2: what is at random, and the same again.
func TestAnyBytes(t *testing.T) {
	rnd := rand.New(rand.NewSource(8))
	for range 20000 {
		p := make([]byte, rnd.Intn(30))
		rnd.Read(p)
		s := string(p)
		if Check(s, 30) != Check(s, 30) || Runes(s) > len(s) || len(Fold(s)) > len(s) || Phone(s) != Phone(s) || Mail(s) != Mail(s) {
			t.Fatalf("%q", s)
		}
		if back, ok := Unquote(Quote(s)); !ok || back != s {
			t.Fatalf("%q: %q", s, back)
		}
		if back, ok := Unquote(s); ok && Quote(back) != s || !ok && back != "" {
			t.Fatalf("%q: %q", s, back)
		}
	}
}
