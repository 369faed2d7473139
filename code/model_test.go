package code

import (
	"math/big"
	"strconv"
	"strings"
	"testing"

	"kinfolk/api"
	"kinfolk/bits"
	"kinfolk/event"
	"kinfolk/id"
)

// The tests tell bits by a text of the signs 0 and 1, and trees by their
// Texts; what follows goes from the one to the other by the document's words.

// packed answers the bytes of these bits, with noughts up to a whole byte.
func packed(signs string) []byte {
	var p []byte
	for at := 0; at < len(signs); at += 8 {
		n, _ := strconv.ParseUint((signs[at:] + "0000000")[:8], 2, 8)
		p = append(p, byte(n))
	}
	return p
}

// numSigns answers a number as layer 5 writes it.
func numSigns(n uint64) string {
	w := bits.NewWriter()
	w.Num(n)
	signs := ""
	r := bits.NewReader(w.Bytes())
	for range w.Len() {
		signs += strconv.FormatUint(r.Get(1), 10)
	}
	return signs
}

// parts answers what stands between a text's outer brackets, parted by the
// commas that stand in no further ones.
func parts(text string) []string {
	var l []string
	open, from := 0, 1
	for at, sign := range text {
		switch {
		case sign == '(':
			open++
		case sign == ')':
			open--
		}
		if open == 1 && sign == ',' || open == 0 && sign == ')' {
			l = append(l, text[from:at])
			from = at + 1
		}
	}
	return l
}

// idSigns answers the bits of an id.
func idSigns(text string) string {
	if text == "0" || text == "1" {
		return "00" + text
	}
	l, r := parts(text)[0], parts(text)[1]
	switch {
	case l == "0":
		return "01" + idSigns(r)
	case r == "0":
		return "10" + idSigns(l)
	}
	return "11" + idSigns(l) + idSigns(r)
}

// eventSigns answers the bits of an event tree.
func eventSigns(text string) string {
	if text[0] != '(' {
		n, _ := strconv.ParseUint(text, 10, 64)
		return "1" + numSigns(n)
	}
	base, l, r := parts(text)[0], parts(text)[1], parts(text)[2]
	n, _ := strconv.ParseUint(base, 10, 64)
	switch {
	case n == 0 && l == "0":
		return "0" + "00" + eventSigns(r)
	case n == 0 && r == "0":
		return "0" + "01" + eventSigns(l)
	case n == 0:
		return "0" + "10" + eventSigns(l) + eventSigns(r)
	case l == "0":
		return "0" + "11" + "00" + numSigns(n) + eventSigns(r)
	case r == "0":
		return "0" + "11" + "01" + numSigns(n) + eventSigns(l)
	}
	return "0" + "11" + "1" + numSigns(n) + eventSigns(l) + eventSigns(r)
}

// model reads trees' texts out of signs.
type model struct {
	signs string
	err   api.Errno // the first that was met
}

func (m *model) fail(err api.Errno) {
	if m.err == api.OK {
		m.err = err
	}
}

// get answers the next k signs: noughts, once there was an error.
func (m *model) get(k int) string {
	if len(m.signs) < k {
		m.fail(api.ErrForm)
	}
	if m.err != api.OK {
		return strings.Repeat("0", k)
	}
	got := m.signs[:k]
	m.signs = m.signs[k:]
	return got
}

// num answers the next number, in digits.
func (m *model) num() string {
	width := 2
	sum := new(big.Int)
	for m.get(1) == "1" {
		sum.Add(sum, new(big.Int).Lsh(big.NewInt(1), uint(width)))
		width++
	}
	rest, _ := new(big.Int).SetString(m.get(width), 2)
	sum.Add(sum, rest)
	switch {
	case !sum.IsUint64():
		m.fail(api.ErrForm)
	case sum.Cmp(big.NewInt(api.MaxCount)) > 0:
		m.fail(api.ErrCount)
	}
	return sum.String()
}

func (m *model) id(deep int) string {
	if m.err != api.OK {
		return ""
	}
	kind := m.get(2)
	if kind == "00" {
		return m.get(1)
	}
	if deep == api.MaxDepth {
		m.fail(api.ErrDeep)
	}
	l, r := "0", "0"
	if kind != "01" {
		l = m.id(deep + 1)
	}
	if kind != "10" {
		r = m.id(deep + 1)
	}
	text := "(" + l + "," + r + ")"
	_, err := id.Parse(text)
	if err != api.OK || kind == "11" && (l == "0" || r == "0") {
		m.fail(api.ErrForm)
	}
	return text
}

func (m *model) event(deep int) string {
	if m.err != api.OK {
		return ""
	}
	if m.get(1) == "1" {
		return m.num()
	}
	if deep == api.MaxDepth {
		m.fail(api.ErrDeep)
	}
	kind, base := m.get(2), "0"
	if kind == "11" {
		kind = "10"
		if m.get(1) == "0" {
			kind = "0" + m.get(1)
		}
		base = m.num()
		if base == "0" {
			m.fail(api.ErrForm)
		}
	}
	l, r := "0", "0"
	if kind != "00" {
		l = m.event(deep + 1)
	}
	if kind != "01" {
		r = m.event(deep + 1)
	}
	if kind == "10" && (l == "0" || r == "0") {
		m.fail(api.ErrForm)
	}
	text := "(" + base + "," + l + "," + r + ")"
	_, err := event.Parse(text)
	m.fail(err)
	return text
}

// behind answers a reader that has just these bits left.
func behind(t *testing.T, signs string) *bits.Reader {
	t.Helper()
	ahead := (8 - len(signs)%8) % 8
	r := bits.NewReader(packed(strings.Repeat("1", ahead) + signs))
	if r.Get(ahead) != 1<<ahead-1 || r.Left() != len(signs) {
		t.Fatal(signs)
	}
	return r
}

func idOf(t *testing.T, text string) id.ID {
	t.Helper()
	i, err := id.Parse(text)
	if err != api.OK {
		t.Fatal(text, err)
	}
	return i
}

func eventOf(t *testing.T, text string) event.Event {
	t.Helper()
	e, err := event.Parse(text)
	if err != api.OK {
		t.Fatal(text, err)
	}
	return e
}

// mustGetID asks that GetID answers what the model does.
func mustGetID(t *testing.T, signs string) {
	t.Helper()
	r, m := behind(t, signs), &model{signs: signs}
	i, err := GetID(r)
	want := m.id(0)
	if m.err != api.OK {
		want = "0"
	}
	if err != m.err || i.Text() != want {
		t.Fatal(signs, i.Text(), err, "wanted", want, m.err)
	}
	if err == api.OK && (r.Err() != api.OK || r.Left() != len(m.signs)) {
		t.Fatal(signs, "left", r.Left(), "wanted", len(m.signs))
	}
}

// mustGetEvent asks that GetEvent answers what the model does.
func mustGetEvent(t *testing.T, signs string) {
	t.Helper()
	r, m := behind(t, signs), &model{signs: signs}
	e, err := GetEvent(r)
	want := m.event(0)
	if m.err != api.OK {
		want = "0"
	}
	if err != m.err || e.Text() != want {
		t.Fatal(signs, e.Text(), err, "wanted", want, m.err)
	}
	if err == api.OK && (r.Err() != api.OK || r.Left() != len(m.signs)) {
		t.Fatal(signs, "left", r.Left(), "wanted", len(m.signs))
	}
}
