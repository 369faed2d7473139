package card

import (
	"slices"

	"kinfolk/api"
)

// Patch is what is to be changed.
type Patch struct {
	Adds, Drops []Field
	Clear       []int
}

// Patch answers c, changed by p; c itself, if it can't be.
func (c Card) Patch(p Patch) (Card, api.Errno) {
	adds, err := Make(p.Adds)
	if err != api.OK {
		return c, err
	}
	rest := without(c.fields, func(f Field) bool {
		return slices.Contains(p.Clear, f.Kind) || slices.Contains(p.Drops, f)
	})
	patched, err := of(append(rest, adds.fields...))
	if err != api.OK {
		return c, err
	}
	return patched, api.OK
}

// Diff answers what makes b of a.
func Diff(a, b Card) Patch {
	return Patch{
		Adds:  without(b.fields, a.has),
		Drops: without(a.fields, b.has),
	}
}
