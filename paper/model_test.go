package paper

import (
	"bytes"
	"encoding/binary"
	"slices"
	"strings"
	"testing"

	"kinfolk/api"
	"kinfolk/card"
)

// model reads bytes by the document's words, without layer 6.
type model struct {
	rest string
	err  api.Errno
}

func (m *model) fail(e api.Errno) {
	if m.err == api.OK {
		m.err = e
	}
}

func (m *model) one() int {
	if m.err == api.OK && m.rest == "" {
		m.fail(api.ErrForm)
	}
	if m.err != api.OK {
		return 0
	}
	b := m.rest[0]
	m.rest = m.rest[1:]
	return int(b)
}

// number answers the number in front, and how many bytes it has: 0 if there is
// none.
func (m *model) number() (uint64, int) {
	n, size := binary.Uvarint([]byte(m.rest))
	if size <= 0 || len(binary.AppendUvarint(nil, n)) != size {
		return 0, 0
	}
	return n, size
}

func (m *model) num() uint64 {
	n, size := m.number()
	if size == 0 {
		m.fail(api.ErrForm)
	}
	if m.err != api.OK {
		return 0
	}
	m.rest = m.rest[size:]
	return n
}

func (m *model) text(most uint64) string {
	n, size := m.number()
	switch {
	case size == 0:
		m.fail(api.ErrForm)
	case n > most:
		m.fail(api.ErrLong)
	case n > uint64(len(m.rest)-size):
		m.fail(api.ErrForm)
	}
	if m.err != api.OK {
		return ""
	}
	s := m.rest[size : size+int(n)]
	m.rest = m.rest[size+int(n):]
	return s
}

func (m *model) end() {
	if m.rest != "" {
		m.fail(api.ErrForm)
	}
}

// card reads a card's fields.
func (m *model) card() []card.Field {
	n := m.num()
	if n > 8 {
		m.fail(api.ErrFull)
	}
	var l []card.Field
	for m.err == api.OK && uint64(len(l)) < n {
		f := card.Field{Kind: m.one(), Label: m.text(12), Value: m.text(40)}
		if m.err == api.OK {
			m.fail(f.Right())
		}
		if len(l) > 0 && !card.Less(l[len(l)-1], f) {
			m.fail(api.ErrForm)
		}
		l = append(l, f)
	}
	if m.err != api.OK {
		return nil
	}
	return l
}

// count reads how many a list of a patch has.
func (m *model) count() int {
	n := m.num()
	if n > 255 {
		m.fail(api.ErrLong)
	}
	if m.err != api.OK {
		return 0
	}
	return int(n)
}

func (m *model) fields() []card.Field {
	var l []card.Field
	for range m.count() {
		l = append(l, card.Field{Kind: m.one(), Label: m.text(255), Value: m.text(255)})
	}
	return l
}

// patch reads a patch that ends with the bytes.
func (m *model) patch() card.Patch {
	p := card.Patch{Adds: m.fields(), Drops: m.fields()}
	for range m.count() {
		p.Clear = append(p.Clear, m.one())
	}
	m.end()
	if m.err != api.OK {
		return card.Patch{}
	}
	return p
}

// tell answers the bytes of fields.
func tell(l []card.Field) []byte {
	p := binary.AppendUvarint(nil, uint64(len(l)))
	for _, f := range l {
		p = append(p, byte(f.Kind))
		for _, s := range []string{f.Label, f.Value} {
			p = append(binary.AppendUvarint(p, uint64(len(s))), s...)
		}
	}
	return p
}

// tellPatch answers the bytes of a patch.
func tellPatch(p card.Patch) []byte {
	b := append(tell(p.Adds), tell(p.Drops)...)
	b = binary.AppendUvarint(b, uint64(len(p.Clear)))
	for _, kind := range p.Clear {
		b = append(b, byte(kind))
	}
	return b
}

func samePatch(a, b card.Patch) bool {
	return slices.Equal(a.Adds, b.Adds) && slices.Equal(a.Drops, b.Drops) && slices.Equal(a.Clear, b.Clear)
}

// few are fields that differ in each part, some of them as long as can be.
func few() []card.Field {
	return []card.Field{
		{Kind: card.Name, Value: "Ann"},
		{Kind: card.Phone, Value: "12"},
		{Kind: card.Name, Label: "b", Value: "Al"},
		{Kind: card.Name, Label: "b", Value: "Ann"},
		{Kind: card.Group, Label: strings.Repeat("l", 12), Value: strings.Repeat("v", 40)},
		{Kind: card.Mail, Label: "é", Value: "a@b.c"},
	}
}

func subset[T any](l []T, bits int) []T {
	var some []T
	for i, v := range l {
		if bits>>i&1 == 1 {
			some = append(some, v)
		}
	}
	return some
}

// notes answers so many notes, all different, in their order.
func notes(n int) []card.Field {
	var l []card.Field
	for i := range n {
		l = append(l, card.Field{Kind: card.Note, Value: string([]byte{'a' + byte(i/26), 'a' + byte(i%26)})})
	}
	return l
}

func mustMake(t *testing.T, l []card.Field) card.Card {
	t.Helper()
	c, err := card.Make(l)
	if err != api.OK {
		t.Fatal(l, err)
	}
	return c
}

// cards answers all cards of few, and full ones.
func cards(t *testing.T) []card.Card {
	t.Helper()
	var l []card.Card
	for bits := range 1 << len(few()) {
		l = append(l, mustMake(t, subset(few(), bits)))
	}
	for n := range 9 {
		l = append(l, mustMake(t, notes(n)))
	}
	return l
}

// roomy answers p with spare room, and a look at the whole of it.
func roomy(p []byte) ([]byte, []byte) {
	whole := append(bytes.Clone(p), bytes.Repeat([]byte{0xee}, 1000)...)
	return whole[:len(p)], whole
}
