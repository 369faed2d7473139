package book

import (
	"kinfolk/api"
	"kinfolk/card"
	"kinfolk/sibs"
)

// Put writes a card, whatever there was.
func (b *Book) Put(id uint32, c card.Card) (sibs.Version, api.Errno) {
	return b.write(id, sibs.Version{Card: c})
}

// Edit writes the one card that there is, changed by p.
func (b *Book) Edit(id uint32, p card.Patch) (sibs.Version, api.Errno) {
	live := b.Query(id)
	switch {
	case b == nil:
		return sibs.Version{}, api.ErrNone
	case len(live) > 1:
		return sibs.Version{}, api.ErrState
	}
	var c card.Card
	if len(live) == 1 {
		c = live[0]
	}
	c, err := c.Patch(p)
	if err != api.OK {
		return sibs.Version{}, err
	}
	return b.write(id, sibs.Version{Card: c})
}

// Delete writes that there is no card any more.
func (b *Book) Delete(id uint32) (sibs.Version, api.Errno) {
	if len(b.Query(id)) == 0 {
		return sibs.Version{}, api.ErrNone
	}
	return b.write(id, sibs.Version{Gone: true})
}

// Resolve writes a card in the place of several versions.
func (b *Book) Resolve(id uint32, c card.Card) (sibs.Version, api.Errno) {
	switch {
	case b == nil:
		return sibs.Version{}, api.ErrNone
	case b.Set(id).Len() < 2:
		return sibs.Version{}, api.ErrState
	}
	return b.write(id, sibs.Version{Card: c})
}

// write makes v all that a contact has. The book has seen all that stood
// there, and v has the book's tree, so all that would be Under it anyway.
func (b *Book) write(id uint32, v sibs.Version) (sibs.Version, api.Errno) {
	if b == nil {
		return sibs.Version{}, api.ErrNone
	}
	if b.Set(id).Len() == 0 && len(b.sets) >= api.MaxContacts {
		return sibs.Version{}, api.ErrFull
	}
	ticked, err := b.stamp.Tick()
	if err != api.OK {
		return sibs.Version{}, err
	}
	v.Event = ticked.Event
	b.stamp = ticked
	b.sets[id] = sibs.Set{}.Add(v)
	return v, api.OK
}
