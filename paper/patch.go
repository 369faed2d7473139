package paper

import (
	"slices"

	"kinfolk/api"
	"kinfolk/card"
	"kinfolk/wire"
)

// patchMost is how many each list of a patch may have, how many bytes its
// texts, and how great its kinds may be.
const patchMost = 255

// Patch answers the bytes of a patch.
func Patch(p card.Patch) ([]byte, api.Errno) {
	if len(p.Clear) > patchMost || tooLong(p.Adds) || tooLong(p.Drops) {
		return nil, api.ErrLong
	}
	if slices.ContainsFunc(p.Adds, hasStrangeKind) || slices.ContainsFunc(p.Drops, hasStrangeKind) || slices.ContainsFunc(p.Clear, isStrange) {
		return nil, api.ErrArg
	}
	b := putFields(nil, p.Adds)
	b = putFields(b, p.Drops)
	b = wire.Num(b, uint64(len(p.Clear)))
	for _, kind := range p.Clear {
		b = append(b, byte(kind))
	}
	return b, api.OK
}

// tooLong says whether there are too many fields, or a text is too long.
func tooLong(l []card.Field) bool {
	return len(l) > patchMost || slices.ContainsFunc(l, hasLongText)
}

func hasLongText(f card.Field) bool {
	return len(f.Label) > patchMost || len(f.Value) > patchMost
}

func hasStrangeKind(f card.Field) bool { return isStrange(f.Kind) }

// isStrange says whether a kind is none that a byte can tell.
func isStrange(kind int) bool { return kind < 0 || kind > patchMost }

// ReadPatch answers the patch that has just these bytes.
func ReadPatch(b []byte) (card.Patch, api.Errno) {
	in := wire.Of(b)
	var p card.Patch
	p.Adds = getFields(in)
	p.Drops = getFields(in)
	p.Clear = getKinds(in)
	if err := in.End(); err != api.OK {
		return card.Patch{}, err
	}
	return p, api.OK
}

// getFields reads a list of fields, whatever they are.
func getFields(in *wire.In) []card.Field {
	var l []card.Field
	for range count(in, patchMost, api.ErrLong) {
		l = append(l, getField(in, patchMost, patchMost))
	}
	return l
}

// getKinds reads a list of kinds.
func getKinds(in *wire.In) []int {
	var l []int
	for range count(in, patchMost, api.ErrLong) {
		l = append(l, int(in.Byte()))
	}
	return l
}
