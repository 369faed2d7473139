package text

import (
	"strings"
)

const (
	mark    = '\\' // what a byte begins with that is told in other signs
	nothing = `\-` // what tells no bytes
	digits  = "0123456789abcdef"
)

// Quote tells s in signs that have no blank, quotation mark or semicolon.
func Quote(s string) string {
	if s == "" {
		return nothing
	}
	var b strings.Builder
	for at := range len(s) {
		b.WriteString(quoted(s[at]))
	}
	return b.String()
}

// quoted answers the signs that tell a byte.
func quoted(c byte) string {
	switch {
	case c == mark:
		return `\\`
	case c <= blank || c >= erase || c == '"' || c == ';':
		return string([]byte{mark, digits[c>>4], digits[c&15]})
	}
	return string([]byte{c})
}

// Unquote answers what has just these signs.
func Unquote(s string) (string, bool) {
	if s == "" {
		return "", false
	}
	if s == nothing {
		return "", true
	}
	var b strings.Builder
	for s != "" {
		c := first(s)
		// A byte has one way to be told alone, so this refuses all others.
		rest, ok := strings.CutPrefix(s, quoted(c))
		if !ok {
			return "", false
		}
		b.WriteByte(c)
		s = rest
	}
	return b.String(), true
}

// first answers the byte that s begins by telling, if it tells one.
func first(s string) byte {
	switch {
	case s[0] != mark:
		return s[0]
	case len(s) < 3 || s[1] == mark:
		return mark
	}
	return digit(s[1])<<4 | digit(s[2])
}

func digit(sign byte) byte { return byte(strings.IndexByte(digits, sign)) }
