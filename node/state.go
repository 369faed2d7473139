package node

import (
	"kinfolk/api"
	"kinfolk/book"
	"kinfolk/deed"
	"kinfolk/stamp"
	"kinfolk/wire"
)

// noParent is the parent's number where there is none.
const noParent = -1

// state is all that survives.
type state struct {
	book    *book.Book
	deeds   *deed.Deeds
	parent  int
	leaving bool
	boots   uint64
}

// newState answers that of one who has done nothing yet.
func newState(self, parent int, seed bool) state {
	var s stamp.Stamp
	if seed {
		s = stamp.Seed()
	}
	return state{book: book.New(s), deeds: deed.New(self), parent: parent}
}

func isNode(k int) bool { return k >= 0 && k < api.MaxNodes }

// isParent says whether self may have such a parent.
func isParent(parent, self int) bool {
	return parent == noParent || isNode(parent) && parent != self
}

// copied answers another state that is alike.
func (s state) copied() state {
	s.book, s.deeds = s.book.Copy(), s.deeds.Copy()
	return s
}

// do does an operation. Behind an error s may be changed in part.
func (s *state) do(o Op) (deed.Gift, api.Errno) {
	var err api.Errno
	switch o.Kind {
	case Put:
		_, err = s.book.Put(o.Contact, o.Card)
	case Edit:
		_, err = s.book.Edit(o.Contact, o.Patch)
	case Delete:
		_, err = s.book.Delete(o.Contact)
	case Resolve:
		_, err = s.book.Resolve(o.Contact, o.Card)
	case Take:
		err = s.book.Take(o.Event, o.Entries)
	case Give:
		return s.give(o.To, false)
	case Leave:
		return s.leave()
	case Done:
		err = s.deeds.Done(o.No)
	case Accept:
		err = s.accept(o)
	case Parent:
		err = s.move(o.To)
	case Boot:
		s.boots++
	default:
		err = api.ErrArg
	}
	return deed.Gift{}, err
}

// give gives half of the share, or all of it, to a node.
func (s *state) give(to int, all bool) (deed.Gift, api.Errno) {
	share, err := s.book.Give(all)
	if err != api.OK {
		return deed.Gift{}, err
	}
	return s.deeds.Give(to, share)
}

// leave gives all of the share to the parent.
func (s *state) leave() (deed.Gift, api.Errno) {
	if s.parent == noParent || s.leaving {
		return deed.Gift{}, api.ErrState
	}
	s.leaving = true
	return s.give(s.parent, true)
}

// accept takes a gift, and all that its giver has.
func (s *state) accept(o Op) api.Errno {
	if err := s.deeds.Take(o.Gift); err != api.OK {
		return err
	}
	if err := s.book.Take(o.Event, o.Entries); err != api.OK {
		return err
	}
	return s.book.Gain(o.Gift.Share)
}

// move makes another node the parent.
func (s *state) move(to int) api.Errno {
	switch {
	case !isParent(to, s.deeds.Self()):
		return api.ErrArg
	case s.leaving:
		return api.ErrState
	}
	s.parent = to
	return api.OK
}

// The byte that tells whether a node is leaving.
const (
	stays  = 0
	leaves = 1
)

// bytes answers the bytes of a state.
func (s state) bytes() []byte {
	p := wire.Text(nil, string(s.book.Bytes()))
	p = wire.Text(p, string(s.deeds.Bytes()))
	p = putNode(p, s.parent)
	if s.leaving {
		p = append(p, leaves)
	} else {
		p = append(p, stays)
	}
	return wire.Num(p, s.boots)
}

// readState answers the state that has just these bytes.
func readState(p []byte) (state, api.Errno) {
	in := wire.Of(p)
	var s state
	s.book = getText(in, book.Read)
	s.deeds = getText(in, deed.Read)
	s.parent = getNode(in)
	flag := in.Byte()
	s.leaving = flag == leaves
	s.boots = in.Num()
	if in.End() != api.OK || flag > leaves || !isParent(s.parent, s.deeds.Self()) {
		return state{}, api.ErrForm
	}
	return s, api.OK
}
