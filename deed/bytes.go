package deed

import (
	"cmp"
	"slices"

	"kinfolk/api"
	"kinfolk/code"
	"kinfolk/wire"
)

const (
	mostShare = 4096    // bytes of a share that are read
	endNode   = 1 << 31 // above all numbers that are read as a node's
)

// PutGift answers p, and g behind it.
func PutGift(p []byte, g Gift) []byte {
	p = putNode(wire.Num(p, g.No), g.From)
	return wire.Text(putNode(p, g.To), string(code.ID(g.Share)))
}

// putNode answers p, and a node's number behind it; one below 0 wraps round.
func putNode(p []byte, k int) []byte { return wire.Num(p, uint64(k)) }

// GetGift reads the next gift.
func GetGift(in *wire.In) Gift {
	g := Gift{No: in.Num()}
	g.From = getNode(in)
	g.To = getNode(in)
	share, err := code.ReadID([]byte(in.Text(mostShare)))
	in.Fail(err)
	if in.Err() != api.OK {
		return Gift{}
	}
	g.Share = share
	return g
}

// getNode reads the next node's number.
func getNode(in *wire.In) int {
	n := in.Num()
	if n >= endNode {
		in.Fail(api.ErrForm)
		return 0
	}
	return int(n)
}

func putMark(p []byte, m Mark) []byte { return wire.Num(putNode(p, m.From), m.No) }

func getMark(in *wire.In) Mark {
	from := getNode(in)
	return Mark{From: from, No: in.Num()}
}

// Bytes answers the bytes of deeds.
func (d *Deeds) Bytes() []byte {
	if d == nil {
		return nil
	}
	p := wire.Num(putNode(nil, d.self), d.last)
	p = putList(p, d.pending, PutGift)
	p = putList(p, d.given, putNode)
	return putList(p, d.marks, putMark)
}

// putList answers p, and behind it how many l has, and these.
func putList[T any](p []byte, l []T, put func([]byte, T) []byte) []byte {
	p = wire.Num(p, uint64(len(l)))
	for _, x := range l {
		// Each made alone: wire would lay all of p anew for each part.
		p = append(p, put(nil, x)...)
	}
	return p
}

// Read answers the deeds that have just these bytes.
func Read(p []byte) (*Deeds, api.Errno) {
	in := wire.Of(p)
	d := New(getNode(in))
	d.last = in.Num()
	d.pending = getList(in, GetGift)
	d.given = getList(in, getNode)
	d.marks = getList(in, getMark)
	if err := in.End(); err != api.OK {
		return nil, err
	}
	if !d.right() {
		return nil, api.ErrForm
	}
	return d, api.OK
}

// getList reads how many there are, and these.
func getList[T any](in *wire.In, get func(*wire.In) T) []T {
	var l []T
	for range in.Num() {
		l = append(l, get(in))
		// However many are told, there are no more than there are bytes for.
		if in.Err() != api.OK {
			return nil
		}
	}
	return l
}

// right says whether a node can have done all that.
func (d *Deeds) right() bool {
	return isNode(d.self) && d.last < endNo && d.rightGiven() && d.rightPending() && d.rightMarks()
}

func (d *Deeds) rightGiven() bool {
	other := func(k int) bool { return isOther(k, d.self) }
	return rise(d.given, cmp.Compare[int]) && all(d.given, other)
}

func (d *Deeds) rightPending() bool {
	own := func(g Gift) bool {
		// The first one to that node is the only one.
		first, _ := d.To(g.To)
		return g.Right() && g.From == d.self && g.No <= d.last && d.Gave(g.To) && first.No == g.No
	}
	return rise(d.pending, byNo) && all(d.pending, own)
}

func (d *Deeds) rightMarks() bool {
	others := func(m Mark) bool { return m.right(d.self) }
	return rise(d.marks, byFrom) && all(d.marks, others)
}

// rise says whether each of l is greater than the one ahead.
func rise[T any](l []T, order func(a, b T) int) bool {
	for i := 1; i < len(l); i++ {
		if order(l[i-1], l[i]) >= 0 {
			return false
		}
	}
	return true
}

// all says whether all of l are as is asks.
func all[T any](l []T, is func(T) bool) bool {
	return !slices.ContainsFunc(l, func(x T) bool { return !is(x) })
}
