package id

import (
	"kinfolk/api"
)

// Text tells an id in signs.
func (i ID) Text() string { return string(i.appendText(nil)) }

func (i ID) appendText(p []byte) []byte {
	if i.IsZero() {
		return append(p, '0')
	}
	if i.IsOne() {
		return append(p, '1')
	}
	p = append(p, '(')
	p = i.Left().appendText(p)
	p = append(p, ',')
	p = i.Right().appendText(p)
	return append(p, ')')
}

// Parse answers the id that has just this text.
func Parse(s string) (ID, api.Errno) {
	depth, ok := scan(s)
	if !ok {
		return Zero(), api.ErrForm
	}
	if depth > api.MaxDepth {
		return Zero(), api.ErrDeep
	}
	i, _ := build(s)
	return i, api.OK
}

// What a scanner knows of a half: its sign if it is 0 or 1, or one of these.
const (
	halfNone byte = ' ' // not read yet
	halfPair byte = '('
)

// scanner goes through a text without calling itself, as a text may nest far
// deeper than any id.
type scanner struct {
	text  string
	at    int
	lefts []byte // the left half of each pair that is open
	depth int
}

// scan says how deep a text nests, and whether it is an id's, of any depth.
func scan(s string) (int, bool) {
	c := scanner{text: s}
	for {
		half, ok := c.leaf()
		if !ok {
			return 0, false
		}
		half, ok = c.closePairs(half)
		if !ok {
			return 0, false
		}
		last := len(c.lefts) - 1
		if last < 0 {
			return c.depth, c.at == len(s)
		}
		c.lefts[last] = half
		if !c.take(',') {
			return 0, false
		}
	}
}

// take goes on by one sign, if it is the one that is asked for.
func (c *scanner) take(sign byte) bool {
	if c.at == len(c.text) || c.text[c.at] != sign {
		return false
	}
	c.at++
	return true
}

// leaf reads on up to the next 0 or 1, and opens the pairs ahead of it.
func (c *scanner) leaf() (byte, bool) {
	for c.take('(') {
		c.lefts = append(c.lefts, halfNone)
		c.depth = max(c.depth, len(c.lefts))
	}
	if c.take('0') {
		return '0', true
	}
	return '1', c.take('1')
}

// closePairs closes the pairs that end with this half, and answers what is
// whole then.
func (c *scanner) closePairs(half byte) (byte, bool) {
	for last := len(c.lefts) - 1; last >= 0 && c.lefts[last] != halfNone; last-- {
		if !c.take(')') || !mayPair(c.lefts[last], half) {
			return halfNone, false
		}
		c.lefts = c.lefts[:last]
		half = halfPair
	}
	return half, true
}

// mayPair says whether two halves are a pair, and not 0 or 1 written long.
func mayPair(l, r byte) bool { return l != r || l == halfPair }

// build reads the id that a scanned text begins with, and answers what is left.
func build(s string) (ID, string) {
	switch s[0] {
	case '0':
		return Zero(), s[1:]
	case '1':
		return One(), s[1:]
	}
	l, rest := build(s[1:])
	r, rest := build(rest[1:])
	return merge(l, r), rest[1:]
}
