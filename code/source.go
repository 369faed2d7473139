package code

import (
	"kinfolk/api"
	"kinfolk/bits"
	"kinfolk/event"
	"kinfolk/id"
)

// source reads trees as a reader reads bits.
type source struct{ *bits.Reader }

// failed says whether the reader has an error; a nil one always has.
func (s source) failed() bool { return s.Err() != api.OK }

// id reads an id that is so deep within another one.
func (s source) id(deep int) (id.ID, api.Errno) {
	kind := s.Get(2)
	switch {
	case s.failed():
		return id.Zero(), api.ErrForm
	case kind == idLeaf:
		return s.leafID()
	case deep == api.MaxDepth:
		return id.Zero(), api.ErrDeep
	}
	l, r, err := halves(kind != idRight, kind != idLeft, deep+1, s.id)
	if err != api.OK {
		return id.Zero(), err
	}
	i, err := id.Pair(l, r)
	// Pair answers the one form, of 0 and 0, or 1 and 1, too.
	if idKind(i) != kind {
		return id.Zero(), api.ErrForm
	}
	return i, err
}

func (s source) leafID() (id.ID, api.Errno) {
	bit := s.Get(1)
	switch {
	case s.failed():
		return id.Zero(), api.ErrForm
	case bit == 1:
		return id.One(), api.OK
	}
	return id.Zero(), api.OK
}

// halves reads those halves that stand behind; another one is T's zero value,
// which is 0 of an id, and of an event tree.
func halves[T any](left, right bool, deep int, half func(deep int) (T, api.Errno)) (l, r T, err api.Errno) {
	if left {
		l, err = half(deep)
	}
	if right && err == api.OK {
		r, err = half(deep)
	}
	return l, r, err
}

// event reads an event tree that is so deep within another one.
func (s source) event(deep int) (event.Event, api.Errno) {
	leaf := s.Get(1) == 1
	switch {
	case s.failed():
		return event.Event{}, api.ErrForm
	case leaf:
		n, err := s.count()
		if err != api.OK {
			return event.Event{}, err
		}
		return event.Leaf(n)
	case deep == api.MaxDepth:
		return event.Event{}, api.ErrDeep
	}
	return s.node(deep)
}

// count reads a number that may be a height.
func (s source) count() (uint64, api.Errno) {
	n := s.Num()
	switch {
	case s.failed():
		return 0, api.ErrForm
	case n > api.MaxCount:
		return 0, api.ErrCount
	}
	return n, api.OK
}

// node reads what stands behind the bit that says that it is one.
func (s source) node(deep int) (event.Event, api.Errno) {
	kind, base, err := s.head()
	if err != api.OK {
		return event.Event{}, err
	}
	l, r, err := halves(kind != nodeRight, kind != nodeLeft, deep+1, s.event)
	if err != api.OK {
		return event.Event{}, err
	}
	// Ahead of Node, which would bring it into its form, or tell ErrCount.
	if halvesKind(l, r) != kind || !inForm(l, r) {
		return event.Event{}, api.ErrForm
	}
	return event.Node(base, l, r)
}

// head reads what stands ahead of a node's halves: which of them stand behind,
// and the base.
func (s source) head() (kind, base uint64, err api.Errno) {
	kind = s.Get(2)
	if s.failed() {
		return 0, 0, api.ErrForm
	}
	if kind != nodeBase {
		return kind, 0, api.OK
	}
	kind = nodeBoth
	if s.Get(1) == 0 {
		kind = s.Get(1)
	}
	base, err = s.count()
	if err == api.OK && base == 0 {
		err = api.ErrForm
	}
	return kind, base, err
}

// inForm says whether a node may have these halves: one of them has a height
// 0 somewhere, and they aren't leaves of one number, which could be 0 alone.
func inForm(l, r event.Event) bool {
	return min(l.Min(), r.Min()) == 0 && max(l.Max(), r.Max()) > 0
}
