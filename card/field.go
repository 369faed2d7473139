package card

import (
	"cmp"

	"kinfolk/api"
	"kinfolk/text"
)

// Field is a kind, a label, a value.
type Field struct {
	Kind         int
	Label, Value string
}

// The kinds.
const (
	Name    = 1
	Phone   = 2
	Mail    = 3
	Address = 4
	Note    = 5
	Group   = 6
)

// names are those of the kinds, at their places.
var names = [...]string{
	Name:    "name",
	Phone:   "phone",
	Mail:    "mail",
	Address: "address",
	Note:    "note",
	Group:   "group",
}

// KindName answers the name of a kind.
func KindName(kind int) string {
	if kind < 0 || kind >= len(names) {
		return ""
	}
	return names[kind]
}

// Right says whether f may stand in a card.
func (f Field) Right() api.Errno {
	if KindName(f.Kind) == "" {
		return api.ErrArg
	}
	if err := text.Check(f.Label, api.MaxLabel); err != api.OK {
		return err
	}
	if err := text.Check(f.Value, api.MaxText); err != api.OK {
		return err
	}
	if !f.fits() {
		return api.ErrText
	}
	return api.OK
}

// fits says whether the value is one of its kind.
func (f Field) fits() bool {
	switch {
	case f.Value == "" || f.Value != text.Fold(f.Value):
		return false
	case f.Kind == Phone:
		return text.Phone(f.Value)
	case f.Kind == Mail:
		return text.Mail(f.Value)
	}
	return true
}

// Less says whether a stands ahead of b.
func Less(a, b Field) bool { return order(a, b) < 0 }

// order answers a number below 0 if a stands ahead of b, and 0 if they are
// the same.
func order(a, b Field) int {
	if n := cmp.Compare(a.Kind, b.Kind); n != 0 {
		return n
	}
	if n := cmp.Compare(a.Label, b.Label); n != 0 {
		return n
	}
	return cmp.Compare(a.Value, b.Value)
}
