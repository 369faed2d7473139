package text

import (
	"fmt"
	"regexp"
	"strings"
	"testing"
)

// tell answers the signs of a text, by the document's words.
func tell(s string) string {
	if s == "" {
		return `\-`
	}
	var b strings.Builder
	for at := range len(s) {
		c := s[at]
		switch {
		case c == '\\':
			b.WriteString(`\\`)
		case c < 0x21 || c > 0x7e || c == '"' || c == ';':
			fmt.Fprintf(&b, `\%02x`, c)
		default:
			b.WriteByte(c)
		}
	}
	return b.String()
}

// P8.3: by hand.
func TestQuoteNamed(t *testing.T) {
	for s, want := range map[string]string{
		"": `\-`, "a;b": `a\3bb`, "a b": `a\20b`, `\`: `\\`, `\\`: `\\\\`, "-": "-", `\-`: `\\-`, `"`: `\22`, ";": `\3b`, "'": "'", "=": "=",
		"!": "!", "~": "~", "\x7f": `\7f`, "\x00": `\00`, "\xff": `\ff`, "\n": `\0a`, "é": `\c3\a9`, `\3b`: `\\3b`, ":": ":", "<": "<", "]": "]", "[": "[", "Aa09": "Aa09",
	} {
		if got := Quote(s); got != want || tell(s) != want {
			t.Errorf("%q: %s, wanted %s", s, got, want)
		}
		if back, ok := Unquote(want); !ok || back != s {
			t.Errorf("%s: %q, %v", want, back, ok)
		}
	}
}

// P8.3: all texts of at most two bytes, and back.
func TestQuoteAll(t *testing.T) {
	for _, s := range all(bytesOf(), 2) {
		got := Quote(s)
		if got != tell(s) {
			t.Fatalf("%q: %s", s, got)
		}
		if back, ok := Unquote(got); !ok || back != s {
			t.Fatalf("%s: %q, %v", got, back, ok)
		}
	}
}

// P8.3: what isn't just so.
func TestUnquoteWrong(t *testing.T) {
	for _, s := range []string{
		"", "a b", `\41`, `\3`, `\`, `a\`, `a\3`, `\\\`, `\3B`, `\3g`, `\g3`, `\FF`, `\5c`, `\2d`, `\7e`, `\21`, `\2`, `\2 `,
		`\-a`, `a\-`, `\-\-`, `\--`, `-\-`, `"`, ";", "a;b", "\x00", "\x7f", "\xff", "é", "\n", " ", `\x3b`, `\/0`, `\:0`, "\\`0", `\0`, `\\ `, `\3 b`, `\20 `, `\a`, `\n`, `\"`, `\;`, `\é`,
	} {
		if back, ok := Unquote(s); ok || back != "" {
			t.Errorf("%q: %q", s, back)
		}
	}
}

// P8.3: all short ones are told by what they are the signs of, or by nothing.
func TestUnquoteAll(t *testing.T) {
	form := regexp.MustCompile(`^(\\\\|\\(0|1)[0-9a-f]|\\(20|22|3b|7f)|\\[89a-f][0-9a-f]|[!#-:<-\[\]-~])+$`)
	for _, s := range append(all([]string{`\`, "-", "0", "3", "5", "b", "c", "f", "B", ";", "é"}, 6), all(bytesOf(), 2)...) {
		back, ok := Unquote(s)
		if want := s == `\-` || form.MatchString(s); ok != want {
			t.Fatalf("%q: %q, %v", s, back, ok)
		}
		if ok && tell(back) != s || !ok && back != "" {
			t.Fatalf("%q: %q, %v", s, back, ok)
		}
	}
	// Each two signs behind a mark.
	for _, two := range all(bytesOf(), 2) {
		back, ok := Unquote(`\` + two)
		if want := two == "-" || form.MatchString(`\`+two); ok != want || ok && tell(back) != `\`+two {
			t.Fatalf("%q: %q, %v", two, back, ok)
		}
	}
}

// P1: long ones end.
func TestQuoteLong(t *testing.T) {
	long := strings.Repeat(" \\a\xff", 1<<18)
	got := Quote(long)
	if got != strings.Repeat(`\20\\a\ff`, 1<<18) {
		t.Fatal(len(got))
	}
	if back, ok := Unquote(got); !ok || back != long {
		t.Fatal(len(back), ok)
	}
	if _, ok := Unquote(got + `\`); ok {
		t.Fatal("a mark behind")
	}
}
