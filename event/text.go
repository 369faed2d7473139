package event

import (
	"strconv"

	"kinfolk/api"
)

// maxDigits is how long a number in a text may be; such a number still fits
// into 64 bits.
const maxDigits = 19

// Text tells a tree in signs.
func (e Event) Text() string { return string(e.appendText(nil)) }

func (e Event) appendText(p []byte) []byte {
	if e.IsLeaf() {
		return strconv.AppendUint(p, e.base, 10)
	}
	p = append(p, '(')
	p = strconv.AppendUint(p, e.base, 10)
	p = append(p, ',')
	p = e.Left().appendText(p)
	p = append(p, ',')
	p = e.Right().appendText(p)
	return append(p, ')')
}

// Parse answers the tree that has just this text.
func Parse(s string) (Event, api.Errno) {
	depth, ok := scan(s)
	if !ok {
		return Event{}, api.ErrForm
	}
	if depth > api.MaxDepth {
		return Event{}, api.ErrDeep
	}
	e, _, err := build(s)
	return e, err
}

// shape is what tells whether two halves may be a node's.
type shape uint8

const (
	shapeNone shape = iota // not read yet
	shapeNil               // the leaf 0
	shapeLow               // a node upon 0
	shapeHigh              // all of it is above 0
)

// opened is a node that is being read: its own shape, and its left half's.
type opened struct {
	own, left shape
}

// scanner goes through a text without calling itself, as a text may nest far
// deeper than any tree.
type scanner struct {
	text  string
	at    int
	open  []opened
	depth int
}

// scan says how deep a text nests, and whether it is written as a tree in its
// form, of any depth and height.
func scan(s string) (int, bool) {
	c := scanner{text: s}
	for {
		half, ok := c.leaf()
		if !ok {
			return 0, false
		}
		half, ok = c.closeNodes(half)
		if !ok {
			return 0, false
		}
		last := len(c.open) - 1
		if last < 0 {
			return c.depth, c.at == len(s)
		}
		c.open[last].left = half
		if !c.take(',') {
			return 0, false
		}
	}
}

// take goes on by one sign, if it is the one that is asked for.
func (c *scanner) take(sign byte) bool {
	if c.at == len(c.text) || c.text[c.at] != sign {
		return false
	}
	c.at++
	return true
}

// number goes on by one number.
func (c *scanner) number() (uint64, bool) {
	n, size, ok := number(c.text[c.at:])
	c.at += size
	return n, ok
}

// leaf reads on up to the next leaf, and opens the nodes ahead of it.
func (c *scanner) leaf() (shape, bool) {
	for c.take('(') {
		base, ok := c.number()
		if !ok || !c.take(',') {
			return shapeNone, false
		}
		c.open = append(c.open, opened{own: nodeShape(base)})
		c.depth = max(c.depth, len(c.open))
	}
	n, ok := c.number()
	return leafShape(n), ok
}

// closeNodes closes the nodes that end with this half, and answers the shape
// of what is whole then.
func (c *scanner) closeNodes(half shape) (shape, bool) {
	for last := len(c.open) - 1; last >= 0 && c.open[last].left != shapeNone; last-- {
		if !c.take(')') || !mayPair(c.open[last].left, half) {
			return shapeNone, false
		}
		half = c.open[last].own
		c.open = c.open[:last]
	}
	return half, true
}

func nodeShape(base uint64) shape {
	if base == 0 {
		return shapeLow
	}
	return shapeHigh
}

func leafShape(n uint64) shape {
	if n == 0 {
		return shapeNil
	}
	return shapeHigh
}

// mayPair says whether two halves stand in a node in its form: one of them is
// 0 somewhere, and one of them isn't 0 everywhere.
func mayPair(l, r shape) bool { return l != r || l == shapeLow }

// number reads the number that a text begins with, and tells how long it is.
func number(s string) (uint64, int, bool) {
	n := uint64(0)
	size := 0
	for size < len(s) && s[size] >= '0' && s[size] <= '9' {
		if size == maxDigits {
			return 0, 0, false
		}
		n = n*10 + uint64(s[size]-'0')
		size++
	}
	if size == 0 || size > 1 && s[0] == '0' {
		return 0, 0, false
	}
	return n, size, true
}

// build reads the tree that a scanned text begins with, and answers what is
// left.
func build(s string) (Event, string, api.Errno) {
	if s[0] != '(' {
		n, size, _ := number(s)
		e, err := Leaf(n)
		return e, s[size:], err
	}
	base, size, _ := number(s[1:])
	l, rest, err := build(s[size+2:])
	if err != api.OK {
		return Event{}, "", err
	}
	r, rest, err := build(rest[1:])
	if err != api.OK {
		return Event{}, "", err
	}
	e, err := Node(base, l, r)
	return e, rest[1:], err
}
