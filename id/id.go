// Package id is layer 1: see shared/doc/01-id.md.
package id

import (
	"kinfolk/api"
)

// ID is a share of the whole: 0, 1, or a pair of halves. It is always kept in
// its one form, so that a pair is neither nothing nor all.
type ID struct {
	all  bool
	pair *pair
}

// pair is never changed once it is made, so that ids may share it.
type pair struct {
	left, right ID
	depth       int
}

// Zero answers the id that has nothing.
func Zero() ID { return ID{} }

// One answers the id that has all.
func One() ID { return ID{all: true} }

// Pair answers the id of two halves.
func Pair(l, r ID) (ID, api.Errno) {
	i := merge(l, r)
	if i.Depth() > api.MaxDepth {
		return Zero(), api.ErrDeep
	}
	return i, api.OK
}

// merge is Pair without regard to the greatest depth.
func merge(l, r ID) ID {
	if l.IsZero() && r.IsZero() {
		return Zero()
	}
	if l.IsOne() && r.IsOne() {
		return One()
	}
	return ID{pair: &pair{left: l, right: r, depth: 1 + max(l.Depth(), r.Depth())}}
}

// IsZero says whether i has nothing.
func (i ID) IsZero() bool { return !i.all && i.pair == nil }

// IsOne says whether i has all.
func (i ID) IsOne() bool { return i.all }

// Left answers the left half; of 0 and 1 that is i itself.
func (i ID) Left() ID {
	if i.pair == nil {
		return i
	}
	return i.pair.left
}

// Right answers the right half; of 0 and 1 that is i itself.
func (i ID) Right() ID {
	if i.pair == nil {
		return i
	}
	return i.pair.right
}

// Depth answers how many pairs stand one within the other.
func (i ID) Depth() int {
	if i.pair == nil {
		return 0
	}
	return i.pair.depth
}

// Split answers two ids that have nothing in common and are i together.
func (i ID) Split() (ID, ID, api.Errno) {
	a, b := i.cut()
	if max(a.Depth(), b.Depth()) > api.MaxDepth {
		return Zero(), Zero(), api.ErrDeep
	}
	return a, b, api.OK
}

// cut is Split without regard to the greatest depth.
func (i ID) cut() (ID, ID) {
	l, r := i.Left(), i.Right()
	switch {
	case i.IsZero():
		return Zero(), Zero()
	case l.IsZero():
		r1, r2 := r.cut()
		return merge(Zero(), r1), merge(Zero(), r2)
	case r.IsZero():
		l1, l2 := l.cut()
		return merge(l1, Zero()), merge(l2, Zero())
	}
	// 1 is cut here too, as both its halves are 1.
	return merge(l, Zero()), merge(Zero(), r)
}

// Sum answers what either of two ids has, that have nothing in common.
func Sum(a, b ID) (ID, api.Errno) {
	if !Disjoint(a, b) {
		return Zero(), api.ErrOverlap
	}
	return union(a, b), api.OK
}

// union is never deeper than the deeper of both, so it can't fail.
func union(a, b ID) ID {
	if a.IsZero() || b.IsOne() {
		return b
	}
	if b.IsZero() || a.IsOne() {
		return a
	}
	return merge(union(a.Left(), b.Left()), union(a.Right(), b.Right()))
}

// Disjoint says whether two ids have nothing in common.
func Disjoint(a, b ID) bool {
	if a.IsZero() || b.IsZero() {
		return true
	}
	if a.IsOne() || b.IsOne() {
		return false
	}
	return Disjoint(a.Left(), b.Left()) && Disjoint(a.Right(), b.Right())
}

// Covers says whether a has all that b has.
func Covers(a, b ID) bool {
	if a.IsOne() || b.IsZero() {
		return true
	}
	// A pair in its one form is never all, so it can't cover 1.
	if a.IsZero() || b.IsOne() {
		return false
	}
	return Covers(a.Left(), b.Left()) && Covers(a.Right(), b.Right())
}

// Same says whether two ids are alike.
func Same(a, b ID) bool { return Covers(a, b) && Covers(b, a) }
