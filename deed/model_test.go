package deed

import (
	"bytes"
	"encoding/binary"
	"slices"
	"testing"

	"kinfolk/api"
	"kinfolk/code"
	"kinfolk/id"
)

func parseID(t *testing.T, s string) id.ID {
	t.Helper()
	i, err := id.Parse(s)
	if err != api.OK {
		t.Fatal(s, err)
	}
	return i
}

func sameGift(a, b Gift) bool {
	return a.No == b.No && a.From == b.From && a.To == b.To && id.Same(a.Share, b.Share)
}

// rightGift says by the chapter's words whether there may be such a gift.
func rightGift(g Gift) bool {
	nodes := g.From >= 0 && g.From <= 11 && g.To >= 0 && g.To <= 11 && g.From != g.To
	return nodes && g.No >= 1 && g.No < 1<<62 && g.Share.Text() != "0"
}

// model is deeds by the chapter's words: all that ever was given and taken.
type model struct {
	self  int
	last  uint64
	gifts []Gift // all that were given
	done  map[uint64]bool
	took  []Gift
}

func newModel(self int) *model { return &model{self: self, done: map[uint64]bool{}} }

func (m *model) copy() *model {
	c := &model{m.self, m.last, slices.Clone(m.gifts), map[uint64]bool{}, slices.Clone(m.took)}
	for no := range m.done {
		c.done[no] = true
	}
	return c
}

func (m *model) pending() []Gift {
	var l []Gift
	for _, g := range m.gifts {
		if !m.done[g.No] {
			l = append(l, g)
		}
	}
	return l
}

func (m *model) to(to int) (Gift, bool) {
	for _, g := range m.pending() {
		if g.To == to {
			return g, true
		}
	}
	return Gift{}, false
}

func (m *model) gave(to int) bool {
	return slices.ContainsFunc(m.gifts, func(g Gift) bool { return g.To == to })
}

func (m *model) given() []int {
	var l []int
	for k := range 12 {
		if m.gave(k) {
			l = append(l, k)
		}
	}
	return l
}

func (m *model) marks() []Mark {
	var l []Mark
	for _, g := range m.took {
		l = append(l, Mark{g.From, g.No})
	}
	slices.SortFunc(l, func(a, b Mark) int {
		if a.From != b.From {
			return a.From - b.From
		}
		if a.No < b.No {
			return -1
		}
		return 1
	})
	return l
}

func num(p []byte, n uint64) []byte { return binary.AppendUvarint(p, n) }

// giftBytes are a gift's, by the chapter's words.
func giftBytes(g Gift) []byte {
	p := num(num(num(nil, g.No), uint64(g.From)), uint64(g.To))
	share := code.ID(g.Share)
	return append(num(p, uint64(len(share))), share...)
}

// deedsBytes are the bytes of such deeds, whether there may be such or not.
func deedsBytes(self int, last uint64, pending []Gift, given []int, marks []Mark) []byte {
	p := num(num(num(nil, uint64(self)), last), uint64(len(pending)))
	for _, g := range pending {
		p = append(p, giftBytes(g)...)
	}
	p = num(p, uint64(len(given)))
	for _, k := range given {
		p = num(p, uint64(k))
	}
	p = num(p, uint64(len(marks)))
	for _, m := range marks {
		p = num(num(p, uint64(m.From)), m.No)
	}
	return p
}

// The kinds of steps.
const (
	aGive = iota
	aDone
	aTake
)

// step is what is done with deeds.
type step struct {
	kind  int
	to    int
	share id.ID
	no    uint64
	gift  Gift
}

func (s step) do(d *Deeds) (Gift, api.Errno) {
	switch s.kind {
	case aGive:
		return d.Give(s.to, s.share)
	case aDone:
		return Gift{}, d.Done(s.no)
	}
	return Gift{}, d.Take(s.gift)
}

func (m *model) do(s step) (Gift, api.Errno) {
	switch s.kind {
	case aGive:
		return m.give(s)
	case aDone:
		if !slices.ContainsFunc(m.pending(), func(g Gift) bool { return g.No == s.no }) {
			return Gift{}, api.ErrNone
		}
		m.done[s.no] = true
		return Gift{}, api.OK
	}
	if !rightGift(s.gift) || s.gift.To != m.self {
		return Gift{}, api.ErrArg
	}
	if slices.Contains(m.marks(), Mark{s.gift.From, s.gift.No}) {
		return Gift{}, api.ErrExists
	}
	m.took = append(m.took, s.gift)
	return Gift{}, api.OK
}

func (m *model) give(s step) (Gift, api.Errno) {
	g := Gift{No: m.last + 1, From: m.self, To: s.to, Share: s.share}
	if !rightGift(g) {
		return Gift{}, api.ErrArg
	}
	if _, waits := m.to(s.to); waits {
		return Gift{}, api.ErrExists
	}
	m.last = g.No
	m.gifts = append(m.gifts, g)
	return g, api.OK
}

// must does a step with both, and asks for the same answer, and that both tell
// the same then.
func (s step) must(t *testing.T, d *Deeds, m *model) api.Errno {
	t.Helper()
	got, err := s.do(d)
	want, e := m.do(s)
	if err != e || !sameGift(got, want) {
		t.Fatalf("%+v: %v %d, wanted %v %d", s, got, err, want, e)
	}
	mustTell(t, d, m)
	return err
}

// mustTell holds what deeds tell against their model.
func mustTell(t *testing.T, d *Deeds, m *model) {
	t.Helper()
	if d.Self() != m.self || d.Last() != m.last {
		t.Fatalf("%d %d, wanted %d %d", d.Self(), d.Last(), m.self, m.last)
	}
	if !slices.EqualFunc(d.Pending(), m.pending(), sameGift) || !slices.Equal(d.Marks(), m.marks()) {
		t.Fatalf("%v %v, wanted %v %v", d.Pending(), d.Marks(), m.pending(), m.marks())
	}
	for _, k := range []int{-1 << 63, -1, 0, 1, 2, 3, 4, 5, 6, 7, 8, 9, 10, 11, 12, 1<<63 - 1} {
		got, ok := d.To(k)
		want, there := m.to(k)
		if ok != there || !sameGift(got, want) || d.Gave(k) != m.gave(k) {
			t.Fatalf("%d: %v %v %v, wanted %v %v %v", k, got, ok, d.Gave(k), want, there, m.gave(k))
		}
		for _, no := range []uint64{0, 1, 2, 3, 4, 1<<62 - 1, 1 << 62, 1<<64 - 1} {
			if took := slices.Contains(m.marks(), Mark{k, no}); d.Took(Mark{k, no}) != took {
				t.Fatalf("%d %d: wanted %v", k, no, took)
			}
		}
	}
	if want := deedsBytes(m.self, m.last, m.pending(), m.given(), m.marks()); !bytes.Equal(d.Bytes(), want) {
		t.Fatalf("%x, wanted %x", d.Bytes(), want)
	}
}

// source reads bytes by the chapter's words.
type source struct {
	rest []byte
	err  api.Errno
}

func (s *source) fail(err api.Errno) {
	if s.err == api.OK {
		s.err = err
	}
}

func (s *source) num() uint64 {
	n, size := binary.Uvarint(s.rest)
	if size <= 0 || len(num(nil, n)) != size {
		s.fail(api.ErrForm)
	}
	if s.err != api.OK {
		return 0
	}
	s.rest = s.rest[size:]
	return n
}

func (s *source) node() int {
	n := s.num()
	if n > 1<<31-1 {
		s.fail(api.ErrForm)
	}
	return int(n)
}

func (s *source) gift() Gift {
	g := Gift{No: s.num()}
	g.From = s.node()
	g.To = s.node()
	n := s.num()
	if n > 4096 {
		s.fail(api.ErrLong)
	}
	if n > uint64(len(s.rest)) {
		s.fail(api.ErrForm)
	}
	if s.err == api.OK {
		var err api.Errno
		g.Share, err = code.ReadID(s.rest[:n])
		s.fail(err)
		s.rest = s.rest[n:]
	}
	if s.err != api.OK {
		return Gift{}
	}
	return g
}

// readModel answers what bytes tell, by the chapter's words.
func readModel(p []byte) (*model, []int, api.Errno) {
	in := &source{rest: p}
	m := newModel(in.node())
	m.last = in.num()
	for n := in.num(); n > 0 && in.err == api.OK; n-- {
		m.gifts = append(m.gifts, in.gift())
	}
	var given []int
	for n := in.num(); n > 0 && in.err == api.OK; n-- {
		given = append(given, in.node())
	}
	var marks []Mark
	for n := in.num(); n > 0 && in.err == api.OK; n-- {
		from := in.node()
		marks = append(marks, Mark{from, in.num()})
		m.took = append(m.took, Gift{From: from, No: marks[len(marks)-1].No})
	}
	if len(in.rest) > 0 {
		in.fail(api.ErrForm)
	}
	if in.err == api.OK && !mayBe(m, given, marks) {
		in.err = api.ErrForm
	}
	return m, given, in.err
}

// mayBe says whether a node can have such deeds.
func mayBe(m *model, given []int, marks []Mark) bool {
	outside := func(k int) bool { return k < 0 || k > 11 }
	if outside(m.self) || m.last >= 1<<62 {
		return false
	}
	for i, g := range m.gifts {
		if !rightGift(g) || g.From != m.self || g.No > m.last || !slices.Contains(given, g.To) {
			return false
		}
		for _, other := range m.gifts[:i] {
			if other.No >= g.No || other.To == g.To {
				return false
			}
		}
	}
	for i, k := range given {
		if outside(k) || k == m.self || i > 0 && given[i-1] >= k {
			return false
		}
	}
	for i, x := range marks {
		if outside(x.From) || x.From == m.self || x.No == 0 || x.No >= 1<<62 {
			return false
		}
		if i > 0 && (marks[i-1].From > x.From || marks[i-1].From == x.From && marks[i-1].No >= x.No) {
			return false
		}
	}
	return true
}

// mustRead holds Read of p against the model, and answers its error.
func mustRead(t *testing.T, p []byte) api.Errno {
	t.Helper()
	m, given, err := readModel(p)
	d, e := Read(p)
	if e != err || (d == nil) != (err != api.OK) {
		t.Fatalf("%.200x: %v, %d; wanted %d", p, d, e, err)
	}
	if d == nil {
		return e
	}
	if d.Self() != m.self || d.Last() != m.last || !slices.EqualFunc(d.Pending(), m.gifts, sameGift) || !slices.Equal(d.Marks(), m.marks()) {
		t.Fatalf("%x: %+v", p, d)
	}
	for k := range 13 {
		if d.Gave(k) != slices.Contains(given, k) {
			t.Fatalf("%x: %d", p, k)
		}
	}
	if !bytes.Equal(d.Bytes(), p) {
		t.Fatalf("%x: %x", p, d.Bytes())
	}
	return e
}
