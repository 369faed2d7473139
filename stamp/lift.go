package stamp

import (
	"kinfolk/api"
	"kinfolk/event"
	"kinfolk/id"
)

// Fill lifts e where i has all of a part, as far as it costs no form.
func Fill(i id.ID, e event.Event) event.Event {
	if i.IsZero() || e.IsLeaf() {
		return e
	}
	if i.IsOne() {
		return leaf(e.Max())
	}
	l, r := e.Left(), e.Right()
	switch {
	case i.Left().IsOne():
		r = Fill(i.Right(), r)
		l = leaf(max(l.Max(), r.Min()))
	case i.Right().IsOne():
		l = Fill(i.Left(), l)
		r = leaf(max(r.Max(), l.Min()))
	default:
		l, r = Fill(i.Left(), l), Fill(i.Right(), r)
	}
	// What is filled is neither deeper nor higher than e, so it can be.
	e, _ = event.Node(e.Base(), l, r)
	return e
}

// leaf is a leaf of a height that some tree has.
func leaf(n uint64) event.Event {
	e, _ := event.Leaf(n)
	return e
}

const (
	stepCost = 1       // of each half that is gone into
	leafCost = 1000    // of each leaf that becomes a node
	noPlace  = 1 << 20 // more than any place costs: at most MaxDepth steps lead to one
)

// Grow lifts e by as little as can be at one place of i, and tells what it
// costs; beside an error the tree is e itself.
func Grow(i id.ID, e event.Event) (event.Event, int, api.Errno) {
	if i.IsZero() {
		return e, 0, api.ErrNone
	}
	g, err := grow(i, e)
	if err != api.OK {
		g = e
	}
	return g, price(i, e), err
}

// grow goes to the place that costs least, and lifts e there. The halves of
// the id 1 are 1, and those of a leaf 0: so 1 is a pair here, and a leaf n the
// node (n, 0, 0), without more ado.
func grow(i id.ID, e event.Event) (event.Event, api.Errno) {
	if atPlace(i, e) {
		return event.Leaf(e.Base() + 1)
	}
	l, r := e.Left(), e.Right()
	err := api.OK
	if price(i.Left(), l) < price(i.Right(), r) {
		l, err = grow(i.Left(), l)
	} else {
		r, err = grow(i.Right(), r)
	}
	if err != api.OK {
		return event.Event{}, err
	}
	return event.Node(e.Base(), l, r)
}

// price is what it costs to grow e at i.
func price(i id.ID, e event.Event) int {
	if i.IsZero() {
		return noPlace
	}
	if atPlace(i, e) {
		return 0
	}
	cost := stepCost + min(price(i.Left(), e.Left()), price(i.Right(), e.Right()))
	if e.IsLeaf() {
		cost += leafCost
	}
	return cost
}

// atPlace says whether all of e can be lifted as it is.
func atPlace(i id.ID, e event.Event) bool { return i.IsOne() && e.IsLeaf() }
