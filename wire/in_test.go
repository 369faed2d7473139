package wire

import (
	"bytes"
	"math/big"
	"math/rand"
	"strings"
	"testing"

	"kinfolk/api"
)

// model is an In whose numbers no width bounds.
type model struct {
	rest string
	err  api.Errno
}

// number answers the number in front, and how many bytes it has: 0 if there is
// none.
func (m *model) number() (uint64, int) {
	end := 0
	for end < len(m.rest) && m.rest[end] >= 0x80 {
		end++
	}
	if end == len(m.rest) {
		return 0, 0
	}
	sum := new(big.Int)
	for i := end; i >= 0; i-- {
		sum.Lsh(sum, 7)
		sum.Or(sum, big.NewInt(int64(m.rest[i]&0x7f)))
	}
	if !sum.IsUint64() || len(Num(nil, sum.Uint64())) != end+1 {
		return 0, 0
	}
	return sum.Uint64(), end + 1
}

func (m *model) fail(e api.Errno) {
	if m.err == api.OK {
		m.err = e
	}
}

func (m *model) take(n int) string {
	s := m.rest[:n]
	m.rest = m.rest[n:]
	return s
}

func (m *model) num() uint64 {
	if m.err != api.OK {
		return 0
	}
	n, size := m.number()
	if size == 0 {
		m.fail(api.ErrForm)
	}
	m.take(size)
	return n
}

func (m *model) text(most int) string {
	if m.err != api.OK {
		return ""
	}
	n, size := m.number()
	if size == 0 {
		m.fail(api.ErrForm)
		return ""
	}
	if most < 0 || new(big.Int).SetUint64(n).Cmp(big.NewInt(int64(most))) > 0 {
		m.fail(api.ErrLong)
		return ""
	}
	if n > uint64(len(m.rest)-size) {
		m.fail(api.ErrForm)
		return ""
	}
	m.take(size)
	return m.take(int(n))
}

const (
	aByte = iota
	aNum
	anEnd
	aFail
	noFail
	aText // and above: a Text of at most as many bytes as it is above aText + 1
)

// step does one thing with both, and holds what they tell against each other.
func step(t *testing.T, in *In, m *model, kind int) {
	t.Helper()
	same := true
	switch kind {
	case aByte:
		want := byte(0)
		if m.err == api.OK && m.rest == "" {
			m.fail(api.ErrForm)
		} else if m.err == api.OK {
			want = m.take(1)[0]
		}
		same = in.Byte() == want
	case aNum:
		same = in.Num() == m.num()
	case anEnd:
		if m.rest != "" {
			m.fail(api.ErrForm)
		}
		same = in.End() == m.err
	case aFail:
		m.fail(api.ErrState)
		in.Fail(api.ErrState)
	case noFail:
		in.Fail(api.OK)
	default:
		same = in.Text(kind-aText-1) == m.text(kind-aText-1)
	}
	if !same || in.Left() != len(m.rest) || in.Err() != m.err {
		t.Fatalf("kind %d: left %d, err %d; wanted %d, %d", kind, in.Left(), in.Err(), len(m.rest), m.err)
	}
}

// P6.3: all short bytes of some kinds, by all short rows of calls.
func TestInAll(t *testing.T) {
	kinds := []int{aByte, aNum, anEnd, aFail, noFail, aText, aText + 1, aText + 2, aText + 3}
	given := []string{""}
	for at := 0; len(given[at]) < 4; at++ {
		for _, b := range []byte{0, 1, 2, 3, 0x7f, 0x80, 0x81, 0xff} {
			given = append(given, given[at]+string([]byte{b}))
		}
	}
	for _, p := range given {
		for _, a := range kinds {
			for _, b := range kinds {
				in, m := Of([]byte(p)), &model{rest: p}
				for _, kind := range []int{a, b, aNum, anEnd, aByte, aText + 9} {
					step(t, in, m, kind)
				}
			}
		}
	}
}

// P6.3: long ones, by calls at random.
func TestInLong(t *testing.T) {
	rnd := rand.New(rand.NewSource(3))
	all := edges()
	for range 50000 {
		var p []byte
		for range rnd.Intn(8) {
			switch rnd.Intn(4) {
			case 0:
				p = append(p, byte(rnd.Intn(256)))
			case 1:
				p = Num(p, all[rnd.Intn(len(all))])
			case 2:
				p = Text(p, strings.Repeat("x", rnd.Intn(6)))
			default:
				p = append(p, bytes.Repeat([]byte{0x80}, rnd.Intn(10))...)
			}
		}
		in, m := Of(p), &model{rest: string(p)}
		for range 8 {
			kind := rnd.Intn(aText + 8)
			if kind == aFail && rnd.Intn(4) > 0 {
				kind = aNum
			}
			step(t, in, m, kind)
		}
		step(t, in, m, anEnd)
	}
}

// P6.3: what was added is read again.
func TestInAgain(t *testing.T) {
	for _, n := range edges() {
		p := Text(Num([]byte{7}, n), "some")
		in := Of(p)
		if in.Left() != len(p) || in.Byte() != 7 || in.Num() != n || in.Left() != 5 || in.Text(4) != "some" || in.Left() != 0 || in.End() != api.OK {
			t.Fatal(n, in.Err())
		}
	}
}

// P6.3: numbers that are none, and nothing of them is read.
func TestInNoNumber(t *testing.T) {
	high := strings.Repeat("\xff", 9)
	wrong := []string{
		"", "\x80", "\xff\xff", high, // they end ahead of the last byte
		"\x80\x00", "\x81\x00", "\xff\x80\x00", high + "\x00", // more than it needs
		high + "\x02", high + "\x03", high + "\x7f", // a tenth above 1
		high + "\x80", high + "\xff", high + "\x80\x00", high + "\x81\x01", // more than ten
		strings.Repeat("\x80", 10) + "\x01", strings.Repeat("\x80", 100000),
	}
	for _, p := range wrong {
		in := Of([]byte(p))
		if in.Num() != 0 || in.Err() != api.ErrForm || in.Left() != len(p) || in.Byte() != 0 || in.Num() != 0 || in.Text(9) != "" || in.Left() != len(p) || in.End() != api.ErrForm {
			t.Fatalf("%x: %d %d", p, in.Err(), in.Left())
		}
		for _, most := range []int{-1, 0, 5} { // the number's error is ahead
			if in := Of([]byte(p)); in.Text(most) != "" || in.Err() != api.ErrForm || in.Left() != len(p) {
				t.Fatalf("%x: %d %d", p, in.Err(), in.Left())
			}
		}
	}
	if in := Of([]byte(high + "\x01")); in.Num() != 1<<64-1 || in.End() != api.OK {
		t.Fatal(in.Err())
	}
}

// P6.3: texts at and beside the most.
func TestInText(t *testing.T) {
	const great = 1<<63 - 1
	for _, c := range []struct {
		p    string
		most int
		want string
		err  api.Errno
	}{
		{"\x00", 0, "", api.OK},
		{"\x00", -1, "", api.ErrLong},
		{"\x00", -1 << 63, "", api.ErrLong},
		{"\x02ab", 2, "ab", api.OK},
		{"\x02ab", great, "ab", api.OK},
		{"\x02ab", 1, "", api.ErrLong},
		{"\x02a", 1, "", api.ErrLong},
		{"\x02a", 2, "", api.ErrForm},
		{"\x02", 2, "", api.ErrForm},
		{"\x02\xff\x00", 2, "\xff\x00", api.OK},
		{string(Num(nil, 1<<64-1)), great, "", api.ErrLong},
		{string(Num(nil, 1<<63)), great, "", api.ErrLong},
		{string(Num(nil, great)), great, "", api.ErrForm},
		{string(Num(nil, 1<<64-1)) + "ab", great, "", api.ErrLong},
		{string(Text(nil, strings.Repeat("x", 1000))), 1000, strings.Repeat("x", 1000), api.OK},
	} {
		in := Of([]byte(c.p))
		left := 0
		if c.err != api.OK {
			left = len(c.p)
		}
		if got := in.Text(c.most); got != c.want || in.Err() != c.err || in.Left() != left || in.End() != c.err {
			t.Fatalf("%x %d: %q %d %d", c.p, c.most, got, in.Err(), in.Left())
		}
	}
}

// P6.3: the first error stays, whoever tells another.
func TestInFail(t *testing.T) {
	in := Of([]byte{5, 6})
	in.Fail(api.OK)
	if in.Err() != api.OK || in.Byte() != 5 {
		t.Fatal(in.Err())
	}
	in.Fail(api.ErrText)
	in.Fail(api.ErrFull)
	in.Fail(api.OK)
	if in.Err() != api.ErrText || in.Byte() != 0 || in.Num() != 0 || in.Text(1) != "" || in.Left() != 1 || in.End() != api.ErrText {
		t.Fatal(in.Err())
	}
	in = Of([]byte{1})
	if in.End() != api.ErrForm || in.Err() != api.ErrForm || in.Byte() != 0 || in.Left() != 1 {
		t.Fatal(in.Err())
	}
	in.Fail(api.ErrText)
	if in.End() != api.ErrForm {
		t.Fatal(in.Err())
	}
}

// What is handed in isn't changed and isn't kept.
func TestInMemory(t *testing.T) {
	p, whole := roomy([]byte("\x07\x02ab\xac\x02"))
	in := Of(p)
	if in.Byte() != 7 {
		t.Fatal("byte")
	}
	mustBeNew(t, []byte("\x07\x02ab\xac\x02"), whole, nil)
	clear(whole)
	if in.Text(2) != "ab" || in.Num() != 300 || in.End() != api.OK {
		t.Fatal(in.Err())
	}
	if in := Of(nil); in.Left() != 0 || in.End() != api.OK || in.Byte() != 0 || in.Err() != api.ErrForm {
		t.Fatal(in.Err())
	}
}

// P6.3: of a nil In ErrNone, 0, empty.
func TestInNil(t *testing.T) {
	var in *In
	in.Fail(api.ErrForm)
	if in.Byte() != 0 || in.Num() != 0 || in.Text(3) != "" || in.Left() != 0 || in.Err() != api.ErrNone || in.End() != api.ErrNone {
		t.Fatal("nil")
	}
}
