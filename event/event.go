// Package event is layer 2: see shared/doc/02-event.md.
package event

import (
	"kinfolk/api"
)

// Event is how much has happened, where: a leaf, or a base with two halves
// that come upon it. It is always kept in its one form, so that the base is
// the least height of all.
type Event struct {
	base   uint64
	halves *halves
}

// halves are never changed once they are made, so that trees may share them.
type halves struct {
	left, right Event
	height      uint64 // the greatest, without the base
	depth       int    // with the node itself
}

// Leaf answers the tree that has the height n everywhere.
func Leaf(n uint64) (Event, api.Errno) {
	if n > api.MaxCount {
		return Event{}, api.ErrCount
	}
	return Event{base: n}, api.OK
}

// Node answers the tree of two halves that come upon n.
func Node(n uint64, l, r Event) (Event, api.Errno) {
	if max(l.Depth(), r.Depth()) >= api.MaxDepth {
		return Event{}, api.ErrDeep
	}
	// n alone is held against the bound first, as the sum might wrap round.
	if n > api.MaxCount || n+max(l.Max(), r.Max()) > api.MaxCount {
		return Event{}, api.ErrCount
	}
	return node(n, l, r), api.OK
}

// node is Node for what is known to be within the limits.
func node(n uint64, l, r Event) Event {
	if l.IsLeaf() && r.IsLeaf() && l.base == r.base {
		return Event{base: n + l.base}
	}
	both := min(l.base, r.base)
	l.base -= both
	r.base -= both
	return Event{base: n + both, halves: &halves{
		left:   l,
		right:  r,
		height: max(l.Max(), r.Max()),
		depth:  1 + max(l.Depth(), r.Depth()),
	}}
}

// IsLeaf says whether the height is the same everywhere.
func (e Event) IsLeaf() bool { return e.halves == nil }

// Base answers a leaf's number, or a node's base.
func (e Event) Base() uint64 { return e.base }

// Left answers the left half, as it is upon the base.
func (e Event) Left() Event {
	if e.IsLeaf() {
		return Event{}
	}
	return e.halves.left
}

// Right answers the right half, as it is upon the base.
func (e Event) Right() Event {
	if e.IsLeaf() {
		return Event{}
	}
	return e.halves.right
}

// Min answers the least height: in the one form all that is common to both
// halves is in the base.
func (e Event) Min() uint64 { return e.base }

// Max answers the greatest height.
func (e Event) Max() uint64 {
	if e.IsLeaf() {
		return e.base
	}
	return e.base + e.halves.height
}

// Depth answers how many nodes stand one within the other.
func (e Event) Depth() int {
	if e.IsLeaf() {
		return 0
	}
	return e.halves.depth
}

// lift answers e with each height greater by n.
func lift(e Event, n uint64) Event {
	e.base += n
	return e
}

// whole answers the halves with the base in them.
func (e Event) whole() (Event, Event) { return lift(e.Left(), e.base), lift(e.Right(), e.base) }

// Leq says whether a's height is at most b's at each place.
func Leq(a, b Event) bool {
	if a.Max() <= b.Min() {
		return true
	}
	if a.IsLeaf() || b.IsLeaf() {
		return false
	}
	al, ar := a.whole()
	bl, br := b.whole()
	return Leq(al, bl) && Leq(ar, br)
}

// Join answers at each place the greater height of both.
func Join(a, b Event) Event {
	if a.Max() <= b.Min() {
		return b
	}
	if b.Max() <= a.Min() {
		return a
	}
	al, ar := a.whole()
	bl, br := b.whole()
	return node(0, Join(al, bl), Join(ar, br))
}

// Same says whether two trees are alike.
func Same(a, b Event) bool { return Leq(a, b) && Leq(b, a) }
