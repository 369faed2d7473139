package deed

import (
	"cmp"

	"kinfolk/api"
	"kinfolk/id"
)

// endNo is above all numbers of gifts.
const endNo = 1 << 62

// Gift is a share that one node gives to another one.
type Gift struct {
	No       uint64
	From, To int
	Share    id.ID
}

// Right says whether there may be such a gift.
func (g Gift) Right() bool {
	return isNo(g.No) && isNode(g.From) && isOther(g.To, g.From) && !g.Share.IsZero()
}

// Mark is a gift that was taken.
type Mark struct {
	From int
	No   uint64
}

// right says whether one of self may have taken such a gift.
func (m Mark) right(self int) bool { return isOther(m.From, self) && isNo(m.No) }

func isNo(no uint64) bool { return no > 0 && no < endNo }

func isNode(k int) bool { return k >= 0 && k < api.MaxNodes }

// isOther says whether k is a node, and another one than self.
func isOther(k, self int) bool { return isNode(k) && k != self }

func byNo(a, b Gift) int { return cmp.Compare(a.No, b.No) }

func byFrom(a, b Mark) int {
	return cmp.Or(cmp.Compare(a.From, b.From), cmp.Compare(a.No, b.No))
}
