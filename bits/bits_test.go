package bits

import (
	"bytes"
	"fmt"
	"math/big"
	"math/rand"
	"strings"
	"testing"

	"kinfolk/api"
)

// The tests tell bits by a text of the signs 0 and 1.

// packed answers the bytes of these bits, with noughts up to a whole byte.
func packed(signs string) []byte {
	var p []byte
	for at := 0; at < len(signs); at += 8 {
		eight := (signs[at:] + "0000000")[:8]
		b := byte(0)
		for _, sign := range eight {
			b = b*2 + byte(sign-'0')
		}
		p = append(p, b)
	}
	return p
}

func signsOf(p []byte) string {
	signs := ""
	for _, b := range p {
		signs += fmt.Sprintf("%08b", b)
	}
	return signs
}

// lowest answers the lowest k bits of n.
func lowest(n uint64, k int) string {
	k = max(0, min(64, k))
	return fmt.Sprintf("%064b", n)[64-k:]
}

// numSigns answers n in few bits, by sums that no width bounds.
func numSigns(n uint64) string {
	left, bit, signs := new(big.Int).SetUint64(n), 2, ""
	for {
		power := new(big.Int).Lsh(big.NewInt(1), uint(bit))
		if left.Cmp(power) < 0 {
			break
		}
		signs += "1"
		left.Sub(left, power)
		bit++
	}
	return signs + "0" + lowest(left.Uint64(), bit)
}

// readNum answers the number that the signs begin with, and how many signs it
// takes: 0 if there is none.
func readNum(signs string) (uint64, int) {
	ones := len(signs) - len(strings.TrimLeft(signs, "1"))
	width := 2 + ones
	end := ones + 1 + width
	if end > len(signs) {
		return 0, 0
	}
	sum, _ := new(big.Int).SetString(signs[ones+1:end], 2)
	for bit := 2; bit < width; bit++ {
		sum.Add(sum, new(big.Int).Lsh(big.NewInt(1), uint(bit)))
	}
	if !sum.IsUint64() {
		return 0, 0
	}
	return sum.Uint64(), end
}

// edges are numbers beside those at which one bit more is needed.
func edges() []uint64 {
	l := []uint64{0, 1, 2, 3, 1 << 63, 1<<64 - 1, 1<<64 - 2, 1<<64 - 4, 1<<64 - 5}
	for bit := 2; bit < 64; bit++ {
		first := uint64(1)<<bit - 4
		l = append(l, first-1, first, first+1, 1<<bit-1, 1<<bit, 1<<bit+1)
	}
	return l
}

func mustHave(t *testing.T, w *Writer, signs string) {
	t.Helper()
	if w.Len() != len(signs) {
		t.Fatalf("Len %d, wanted %d", w.Len(), len(signs))
	}
	if !bytes.Equal(w.Bytes(), packed(signs)) {
		t.Fatalf("Bytes %08b, wanted %s", w.Bytes(), signs)
	}
}

// P5.1: a new writer has nothing.
func TestNewWriter(t *testing.T) { mustHave(t, NewWriter(), "") }

// P5.1: the lowest k bits, the highest first, whatever k is.
func TestPut(t *testing.T) {
	for _, n := range []uint64{0, 1, 5, 0x8000000000000001, 0x0123456789abcdef, 1<<64 - 1} {
		for k := -2; k <= 66; k++ {
			w := NewWriter()
			w.Put(n, k)
			mustHave(t, w, lowest(n, k))
		}
	}
	for _, k := range []int{-1 << 63, -1 << 31, 1 << 31, 1<<63 - 1} {
		w := NewWriter()
		w.Put(0x8123456789abcdef, k)
		mustHave(t, w, lowest(0x8123456789abcdef, min(64, max(0, k))))
	}
}

// P5.1: bits stand one behind the other, wherever a byte ends.
func TestPutBehindAnother(t *testing.T) {
	for ahead := range 20 {
		for k := range 20 {
			w := NewWriter()
			w.Put(0xaaaaa, ahead)
			w.Put(0x9d3b7, k)
			w.Put(1, 1)
			mustHave(t, w, lowest(0xaaaaa, ahead)+lowest(0x9d3b7, k)+"1")
		}
	}
}

// P5.2: the document's words and example.
func TestNumNamed(t *testing.T) {
	named := map[uint64]string{
		0: "000", 1: "001", 2: "010", 3: "011",
		4: "10000", 5: "10001", 11: "10111", 12: "1100000", 27: "1101111",
		28:        "111000000",
		1<<64 - 1: strings.Repeat("1", 62) + "0" + strings.Repeat("0", 62) + "11",
		1<<64 - 4: strings.Repeat("1", 62) + "0" + strings.Repeat("0", 64),
		1<<64 - 5: strings.Repeat("1", 61) + "0" + strings.Repeat("1", 63),
	}
	for n, signs := range named {
		w := NewWriter()
		w.Num(n)
		mustHave(t, w, signs)
	}
	w := NewWriter()
	w.Num(5)
	if !bytes.Equal(w.Bytes(), []byte{0x88}) {
		t.Fatalf("%x", w.Bytes())
	}
}

// P5.2, P5.3: numbers are written as the rule says, and read again.
func TestNum(t *testing.T) {
	all := edges()
	for n := range uint64(5000) {
		all = append(all, n)
	}
	for _, n := range all {
		w := NewWriter()
		w.Num(n)
		signs := numSigns(n)
		mustHave(t, w, signs)
		r := NewReader(packed(signs))
		if got := r.Num(); got != n || r.Err() != api.OK || r.End() != api.OK {
			t.Fatal(n, got, r.Err())
		}
	}
}

// model is a reader of signs.
type model struct {
	signs string
	err   api.Errno
}

func (m *model) get(k int) uint64 {
	k = max(0, min(64, k))
	if m.err != api.OK {
		return 0
	}
	if k > len(m.signs) {
		m.err = api.ErrForm
		return 0
	}
	n, _ := new(big.Int).SetString("0"+m.signs[:k], 2)
	m.signs = m.signs[k:]
	return n.Uint64()
}

func (m *model) num() uint64 {
	if m.err != api.OK {
		return 0
	}
	n, size := readNum(m.signs)
	if size == 0 {
		m.err = api.ErrForm
	}
	m.signs = m.signs[size:]
	return n
}

func (m *model) end() api.Errno {
	if m.err == api.OK && (len(m.signs) >= 8 || strings.Contains(m.signs, "1")) {
		m.err = api.ErrForm
	}
	return m.err
}

// step does one thing with both and holds what they tell against each other;
// kinds from -2 to 66 are Gets.
func step(t *testing.T, r *Reader, m *model, kind int) {
	t.Helper()
	var got, want uint64
	switch kind {
	case num:
		got, want = r.Num(), m.num()
	case end:
		got, want = uint64(r.End()), uint64(m.end())
	default:
		got, want = r.Get(kind), m.get(kind)
	}
	if got != want || r.Left() != len(m.signs) || r.Err() != m.err {
		t.Fatalf("kind %d: %d, left %d, err %d; wanted %d, %d, %d", kind, got, r.Left(), r.Err(), want, len(m.signs), m.err)
	}
}

const (
	num = 100
	end = 101
)

// P5.3: all bytes of two, by all of some short rows of calls.
func TestReadAll(t *testing.T) {
	kinds := []int{num, end, 0, 1, 3, 7, 8, 9, 16, 17}
	for both := range 1 << 16 {
		p := []byte{byte(both >> 8), byte(both)}
		first, second := kinds[both%len(kinds)], kinds[both/len(kinds)%len(kinds)]
		for _, row := range [][]int{{num, num, num, num, num, end}, {end, num, end}, {first, second, num, end, 1}} {
			r, m := NewReader(p), &model{signs: signsOf(p)}
			for _, kind := range row {
				step(t, r, m, kind)
			}
		}
	}
	for one := range 256 {
		p := []byte{byte(one)}
		for _, a := range kinds {
			for _, b := range kinds {
				for _, c := range kinds {
					r, m := NewReader(p), &model{signs: signsOf(p)}
					for _, kind := range []int{a, b, c, end, 0} {
						step(t, r, m, kind)
					}
				}
			}
		}
	}
}

// P5.3: long ones, by calls at random.
func TestReadLong(t *testing.T) {
	rnd := rand.New(rand.NewSource(5))
	for range 20000 {
		p := make([]byte, rnd.Intn(40))
		rnd.Read(p)
		if rnd.Intn(2) == 0 { // many ones, for long numbers
			for i := range len(p) / 2 {
				p[i] = 0xff
			}
		}
		r, m := NewReader(p), &model{signs: signsOf(p)}
		for range 12 {
			kind := rnd.Intn(72) - 2
			if kind > 66 {
				kind = num
			}
			step(t, r, m, kind)
		}
		step(t, r, m, end)
		step(t, r, m, num)
	}
}

// P5.3: what a writer has written is read again, in its order.
func TestReadWritten(t *testing.T) {
	rnd := rand.New(rand.NewSource(6))
	all := edges()
	for range 2000 {
		w := NewWriter()
		var numbers []uint64
		var widths []int // -1 for a Num
		for range rnd.Intn(10) {
			n := all[rnd.Intn(len(all))]
			if rnd.Intn(2) == 0 {
				w.Num(n)
				numbers, widths = append(numbers, n), append(widths, -1)
				continue
			}
			k := rnd.Intn(65)
			w.Put(n, k)
			if k < 64 {
				n &= 1<<k - 1
			}
			numbers, widths = append(numbers, n), append(widths, k)
		}
		r := NewReader(w.Bytes())
		for i, want := range numbers {
			var got uint64
			if widths[i] < 0 {
				got = r.Num()
			} else {
				got = r.Get(widths[i])
			}
			if got != want {
				t.Fatal(i, got, want)
			}
		}
		if r.End() != api.OK {
			t.Fatal(r.Err())
		}
	}
}

// P5.3: a number above 2^64 - 1 is none, and nothing of it is read.
func TestNumTooGreat(t *testing.T) {
	ones := func(n int) string { return strings.Repeat("1", n) }
	noughts := func(n int) string { return strings.Repeat("0", n) }
	great := []string{
		ones(62) + "0" + noughts(61) + "100",       // 2^64
		ones(62) + "0" + ones(64),                  // the most of this width
		ones(62) + "0" + "1" + noughts(63),         // wraps round to below 2^63
		ones(63) + "0" + noughts(65),               // the least of the next width
		ones(63) + "0" + noughts(63) + "11",        // and some more
		ones(64) + "0" + noughts(66),               //
		ones(126) + "0" + noughts(128),             // twice the width
		ones(1000) + "0" + noughts(1002),           //
		ones(62) + "0" + noughts(61) + "100" + "0", // bits behind it
	}
	for _, signs := range great {
		p := packed("101" + signs)
		r := NewReader(p)
		if r.Get(3) != 5 || r.Num() != 0 || r.Err() != api.ErrForm || r.Left() != 8*len(p)-3 {
			t.Fatal(signs, r.Left(), r.Err())
		}
		if r.Get(1) != 0 || r.Get(0) != 0 || r.Num() != 0 || r.Left() != 8*len(p)-3 || r.End() != api.ErrForm {
			t.Fatal(signs, r.Left(), r.Err())
		}
	}
}

// P5.3: a number whose bits end ahead of its end, wherever.
func TestNumCutShort(t *testing.T) {
	for _, n := range edges() {
		signs := numSigns(n)
		for cut := range len(signs) {
			// Ones that Get takes ahead make up whole bytes.
			ahead := (8 - cut%8) % 8
			p := packed(strings.Repeat("1", ahead) + signs[:cut])
			r := NewReader(p)
			if r.Get(ahead) != 1<<ahead-1 || r.Num() != 0 || r.Err() != api.ErrForm || r.Left() != cut {
				t.Fatal(n, cut, r.Left(), r.Err())
			}
		}
	}
}

// P5.3, P1: ones alone, many of them, end.
func TestNumAllOnes(t *testing.T) {
	p := bytes.Repeat([]byte{0xff}, 1<<20)
	r := NewReader(p)
	if r.Num() != 0 || r.Err() != api.ErrForm || r.Left() != 8<<20 {
		t.Fatal(r.Left(), r.Err())
	}
}

// P5.3: End takes nothing, and its error stays.
func TestEnd(t *testing.T) {
	for left := range 17 {
		for _, last := range []string{"0", "1"} {
			signs := strings.Repeat("1", 24-left) + strings.Repeat("0", left)
			if left > 0 && last == "1" {
				signs = signs[:23] + "1"
			}
			want := api.OK
			if left >= 8 || left > 0 && last == "1" {
				want = api.ErrForm
			}
			r := NewReader(packed(signs))
			r.Get(24 - left)
			if r.End() != want || r.Err() != want || r.Left() != left || r.End() != want {
				t.Fatal(left, last, r.Err())
			}
			if r.Get(0) != 0 || r.Left() != left {
				t.Fatal(left, last)
			}
		}
	}
	r := NewReader([]byte{0xf0, 0})
	if r.End() != api.ErrForm || r.Get(4) != 0 || r.Num() != 0 || r.Left() != 16 {
		t.Fatal(r.Err(), r.Left())
	}
	if r := NewReader(nil); r.Left() != 0 || r.Get(0) != 0 || r.End() != api.OK || r.Get(1) != 0 || r.End() != api.ErrForm {
		t.Fatal(r.Err())
	}
}

// What is handed in isn't kept, and what is answered is new memory.
func TestMemory(t *testing.T) {
	p := []byte{0xa5, 0x5a}
	r := NewReader(p[:1])
	p[0] = 0
	if r.Left() != 8 || r.Get(8) != 0xa5 || p[1] != 0x5a {
		t.Fatal("kept")
	}
	w := NewWriter()
	w.Put(0xabc, 12)
	one, other := w.Bytes(), w.Bytes()
	one[0], one[1] = 0, 0
	_ = append(one, 1)
	w.Put(0xd, 4)
	if !bytes.Equal(other, []byte{0xab, 0xc0}) || !bytes.Equal(w.Bytes(), []byte{0xab, 0xcd}) {
		t.Fatalf("%x %x", other, w.Bytes())
	}
}

// Of nil ones: 0, nothing; ErrNone.
func TestNil(t *testing.T) {
	var w *Writer
	w.Put(5, 3)
	w.Num(9)
	if w.Len() != 0 || len(w.Bytes()) != 0 {
		t.Fatal("writer")
	}
	var r *Reader
	if r.Get(3) != 0 || r.Get(0) != 0 || r.Num() != 0 || r.Left() != 0 || r.Err() != api.ErrNone || r.End() != api.ErrNone {
		t.Fatal("reader")
	}
}
