package deed

import (
	"bytes"
	"math/rand"
	"slices"
	"strings"
	"testing"

	"kinfolk/api"
	"kinfolk/id"
	"kinfolk/wire"
)

// P15.4: by hand.
func TestBytesNamed(t *testing.T) {
	d := New(3)
	if p := d.Bytes(); string(p) != "\x03\x00\x00\x00\x00" {
		t.Errorf("%x", p)
	}
	d.Give(11, id.One())
	d.Give(0, parseID(t, "(0,1)"))
	d.Done(1)
	d.Take(Gift{300, 7, 3, id.One()})
	if p := d.Bytes(); string(p) != "\x03\x02"+"\x01"+"\x02\x03\x00\x01\x48"+"\x02\x00\x0b"+"\x01\x07\xac\x02" {
		t.Errorf("%x", p)
	}
	if p := New(-1).Bytes(); string(p) != "\xff\xff\xff\xff\xff\xff\xff\xff\xff\x01\x00\x00\x00\x00" {
		t.Errorf("%x", p)
	}
	for _, x := range []struct {
		g    Gift
		want string
	}{
		{Gift{}, "\x00\x00\x00\x01\x00"},
		{Gift{1, 3, 5, id.One()}, "\x01\x03\x05\x01\x20"},
		{Gift{1<<64 - 1, -1, -1 << 63, parseID(t, "(1,0)")}, strings.Repeat("\xff", 9) + "\x01" + strings.Repeat("\xff", 9) + "\x01" + strings.Repeat("\x80", 9) + "\x01" + "\x01\x88"},
		{Gift{128, 1 << 31, 1<<63 - 1, id.One()}, "\x80\x01" + "\x80\x80\x80\x80\x08" + strings.Repeat("\xff", 8) + "\x7f" + "\x01\x20"},
	} {
		if p := PutGift([]byte("ab"), x.g); string(p) != "ab"+x.want {
			t.Errorf("%+v: %x", x.g, p)
		}
		if p := PutGift(nil, x.g); string(p) != x.want {
			t.Errorf("%+v: %x", x.g, p)
		}
	}
}

// mustGet holds GetGift of p against the model, and answers the error.
func mustGet(t *testing.T, p []byte) api.Errno {
	t.Helper()
	in, m := wire.Of(p), &source{rest: p}
	g, want := GetGift(in), m.gift()
	if in.Err() != m.err || m.err == api.OK && in.Left() != len(m.rest) || !sameGift(g, want) {
		t.Fatalf("%.200x: %v %d, wanted %v %d", p, g, in.Err(), want, m.err)
	}
	return m.err
}

// P15.4: what is met first; beside an error there is no gift.
func TestGetGiftErrors(t *testing.T) {
	below, at, greatest := "\xff\xff\xff\xff\x07", "\x80\x80\x80\x80\x08", "\xff\xff\xff\xff\xff\xff\xff\xff\xff\x01"
	deep := "\x08" + strings.Repeat("\x55", 8)
	long := string(wire.Num(nil, 4097))
	for _, x := range []struct {
		p    string
		want api.Errno
	}{
		{"\x01\x03\x05\x01\x20", api.OK}, {"\x01\x03\x05\x01\x20more", api.OK}, {"\x00\x00\x00\x01\x00", api.OK}, {greatest + below + below + "\x01\x48", api.OK},
		{"", api.ErrForm}, {"\x01", api.ErrForm}, {"\x01\x03", api.ErrForm}, {"\x01\x03\x05", api.ErrForm}, {"\x01\x03\x05\x01", api.ErrForm}, {"\x01\x03\x05\x02\x20", api.ErrForm},
		{"\x81\x00\x03\x05\x01\x20", api.ErrForm}, {"\x01\x83\x00\x05\x01\x20", api.ErrForm}, {"\x01\x03\x85\x00\x01\x20", api.ErrForm}, {"\x01\x03\x05\x81\x00\x20", api.ErrForm},
		{"\x01" + at + "\x05\x01\x20", api.ErrForm}, {"\x01\x03" + at + "\x01\x20", api.ErrForm}, {"\x01" + greatest + "\x05\x01\x20", api.ErrForm}, {"\x01\x03" + greatest + "\x01\x20", api.ErrForm},
		// Layer 7's error.
		{"\x01\x03\x05\x00", api.ErrForm}, {"\x01\x03\x05\x01\x21", api.ErrForm}, {"\x01\x03\x05\x02\x20\x00", api.ErrForm}, {"\x01\x03\x05" + deep, api.ErrDeep},
		// A node is told behind it, ahead of the share.
		{"\x01" + at + "\x05" + deep, api.ErrForm}, {"\x01\x03" + at + deep, api.ErrForm}, {"\x01" + at + "\x05" + long, api.ErrForm}, {"\x01\x03" + at + long, api.ErrForm},
		// How long a share may be is told ahead of its not being there.
		{"\x01\x03\x05" + long, api.ErrLong}, {"\x01\x03\x05" + greatest, api.ErrLong}, {"\x01\x03\x05" + string(wire.Num(nil, 4096)), api.ErrForm},
		{"\x01\x03\x05" + string(wire.Num(nil, 4096)) + strings.Repeat("\x55", 4096), api.ErrDeep}, {"\x01\x03\x05" + long + strings.Repeat("\x55", 4097), api.ErrLong},
	} {
		if err := mustGet(t, []byte(x.p)); err != x.want {
			t.Errorf("%.40x: %d, wanted %d", x.p, err, x.want)
		}
	}
	in := wire.Of([]byte("\x01\x03\x05\x01\x20"))
	in.Fail(api.ErrBusy)
	if g := GetGift(in); !sameGift(g, Gift{}) || in.Err() != api.ErrBusy {
		t.Error(g, in.Err())
	}
	if g := GetGift(nil); !sameGift(g, Gift{}) {
		t.Error(g)
	}
}

// comb answers an id of so many halves (0,1).
func comb(t *testing.T, many int) id.ID {
	t.Helper()
	if many == 1 {
		return parseID(t, "(0,1)")
	}
	i, err := id.Pair(comb(t, many/2), comb(t, many-many/2))
	if err != api.OK {
		t.Fatal(err)
	}
	return i
}

// P15.4: shares of the most bytes, and of one more.
func TestLongShares(t *testing.T) {
	// Each half is 2 bits and 3, each pair of them 2 more, but for one: 7 bits
	// each, less 2.
	for many, want := range map[int]api.Errno{4681: api.OK, 4682: api.ErrLong} {
		g := Gift{1, 3, 5, comb(t, many)}
		p := PutGift(nil, g)
		if size := len(p) - 5; want == api.OK && size != 4096 || want != api.OK && size != 4097 {
			t.Fatal(size)
		}
		if err := mustGet(t, p); err != want {
			t.Error(many, err)
		}
		if err := mustRead(t, deedsBytes(3, 1, []Gift{g}, []int{5}, nil)); err != want {
			t.Error(many, err)
		}
	}
}

// P15.4: what is written is read again.
func TestGiftAgain(t *testing.T) {
	shares := []id.ID{id.Zero(), id.One(), parseID(t, "((0,1),(1,0))")}
	for _, no := range []uint64{0, 1, 127, 128, 1<<62 - 1, 1 << 62, 1<<64 - 1} {
		for _, from := range []int{0, 11, 127, 128, 1<<31 - 1} {
			for _, to := range []int{0, 11, 127, 128, 1<<31 - 1} {
				for _, share := range shares {
					g := Gift{no, from, to, share}
					p := PutGift(nil, g)
					if !bytes.Equal(p, giftBytes(g)) || mustGet(t, p) != api.OK {
						t.Errorf("%+v: %x", g, p)
					}
				}
			}
		}
	}
}

// P15.4: each of these isn't what a node can have done; or is.
func TestReadForm(t *testing.T) {
	one := id.One()
	gift := func(no uint64, to int) Gift { return Gift{no, 3, to, one} }
	gifts := func(l ...Gift) []Gift { return l }
	nodes := func(l ...int) []int { return l }
	marks := func(l ...Mark) []Mark { return l }
	const most = 1<<62 - 1
	for k, x := range []struct {
		self    int
		last    uint64
		pending []Gift
		given   []int
		marks   []Mark
		want    api.Errno
	}{
		{0, 0, nil, nil, nil, api.OK}, {11, 0, nil, nil, nil, api.OK}, {12, 0, nil, nil, nil, api.ErrForm}, {1<<31 - 1, 0, nil, nil, nil, api.ErrForm}, {-1, 0, nil, nil, nil, api.ErrForm},
		{3, most, nil, nil, nil, api.OK}, {3, most + 1, nil, nil, nil, api.ErrForm}, {3, 1<<64 - 1, nil, nil, nil, api.ErrForm},
		{3, 1, gifts(gift(1, 5)), nodes(5), nil, api.OK}, {3, 9, gifts(gift(2, 5), gift(7, 0)), nodes(0, 5, 9), nil, api.OK}, {3, most, gifts(gift(most, 11)), nodes(11), nil, api.OK},
		// Gifts that aren't Right.
		{3, 1, gifts(gift(0, 5)), nodes(5), nil, api.ErrForm}, {3, 1, gifts(gift(1, 3)), nodes(3), nil, api.ErrForm}, {3, 1, gifts(gift(1, 3)), nil, nil, api.ErrForm}, {3, 1, gifts(gift(1, 12)), nodes(12), nil, api.ErrForm},
		{3, 1, gifts(Gift{1, 3, 5, id.Zero()}), nodes(5), nil, api.ErrForm}, {3, most + 1, gifts(gift(most+1, 5)), nodes(5), nil, api.ErrForm},
		// Of somebody else's; that don't rise; above Last; two to one; to one who was never given to.
		{3, 1, gifts(Gift{1, 4, 5, one}), nodes(5), nil, api.ErrForm}, {4, 1, gifts(gift(1, 5)), nodes(5), nil, api.ErrForm},
		{3, 9, gifts(gift(7, 5), gift(2, 0)), nodes(0, 5), nil, api.ErrForm}, {3, 9, gifts(gift(2, 5), gift(2, 0)), nodes(0, 5), nil, api.ErrForm},
		{3, 1, gifts(gift(2, 5)), nodes(5), nil, api.ErrForm}, {3, 8, gifts(gift(2, 5), gift(9, 0)), nodes(0, 5), nil, api.ErrForm}, {3, 0, gifts(gift(1, 5)), nodes(5), nil, api.ErrForm},
		{3, 9, gifts(gift(2, 5), gift(3, 5)), nodes(0, 5), nil, api.ErrForm}, {3, 9, gifts(gift(1, 5), gift(2, 0), gift(3, 5)), nodes(0, 5), nil, api.ErrForm},
		{3, 1, gifts(gift(1, 5)), nil, nil, api.ErrForm}, {3, 1, gifts(gift(1, 5)), nodes(4, 6), nil, api.ErrForm}, {3, 2, gifts(gift(1, 5), gift(2, 6)), nodes(5), nil, api.ErrForm},
		// Nodes that don't rise, are outside, or Self.
		{3, 2, nil, nodes(0, 1, 11), nil, api.OK}, {3, 0, nil, nodes(5), nil, api.OK},
		{3, 2, nil, nodes(1, 0), nil, api.ErrForm}, {3, 2, nil, nodes(1, 1), nil, api.ErrForm}, {3, 2, nil, nodes(0, 2, 1), nil, api.ErrForm}, {3, 2, nil, nodes(12), nil, api.ErrForm}, {3, 2, nil, nodes(0, 1<<31-1), nil, api.ErrForm}, {3, 2, nil, nodes(1 << 31), nil, api.ErrForm}, {3, 2, nil, nodes(-1), nil, api.ErrForm},
		{3, 2, nil, nodes(3), nil, api.ErrForm}, {3, 2, nil, nodes(2, 3, 4), nil, api.ErrForm},
		// Marks.
		{3, 0, nil, nil, marks(Mark{0, 1}), api.OK}, {3, 0, nil, nil, marks(Mark{0, 7}, Mark{5, 2}, Mark{5, 3}, Mark{11, most}), api.OK},
		{3, 0, nil, nil, marks(Mark{0, 0}), api.ErrForm}, {3, 0, nil, nil, marks(Mark{0, most + 1}), api.ErrForm}, {3, 0, nil, nil, marks(Mark{0, 1<<64 - 1}), api.ErrForm},
		{3, 0, nil, nil, marks(Mark{3, 1}), api.ErrForm}, {3, 0, nil, nil, marks(Mark{0, 1}, Mark{3, 1}, Mark{4, 1}), api.ErrForm}, {3, 0, nil, nil, marks(Mark{12, 1}), api.ErrForm}, {3, 0, nil, nil, marks(Mark{-1, 1}), api.ErrForm}, {3, 0, nil, nil, marks(Mark{1<<31 - 1, 1}), api.ErrForm}, {3, 0, nil, nil, marks(Mark{1 << 31, 1}), api.ErrForm},
		{3, 0, nil, nil, marks(Mark{5, 2}, Mark{5, 2}), api.ErrForm}, {3, 0, nil, nil, marks(Mark{5, 2}, Mark{5, 1}), api.ErrForm}, {3, 0, nil, nil, marks(Mark{5, 1}, Mark{4, 2}), api.ErrForm}, {3, 0, nil, nil, marks(Mark{0, 1}, Mark{5, 3}, Mark{5, 2}), api.ErrForm},
	} {
		p := deedsBytes(x.self, x.last, x.pending, x.given, x.marks)
		if err := mustRead(t, p); err != x.want {
			t.Errorf("%d: %+v: %d", k, x, err)
		}
	}
}

// P15.4: what is met first, and the form at last.
func TestReadErrors(t *testing.T) {
	deep, long := "\x08"+strings.Repeat("\x55", 8), string(wire.Num(nil, 4097))
	at, greatest := "\x80\x80\x80\x80\x08", "\xff\xff\xff\xff\xff\xff\xff\xff\xff\x01"
	for _, x := range []struct {
		p    string
		want api.Errno
	}{
		{"", api.ErrForm}, {"\x03", api.ErrForm}, {"\x03\x00", api.ErrForm}, {"\x03\x00\x00", api.ErrForm}, {"\x03\x00\x00\x00", api.ErrForm}, {"\x03\x00\x00\x00\x00", api.OK}, {"\x03\x00\x00\x00\x00\x00", api.ErrForm},
		{"\x83\x00\x00\x00\x00\x00", api.ErrForm}, {"\x03\x80\x00\x00\x00\x00", api.ErrForm},
		// A share's errors are told, whatever its gift would be.
		{"\x03\x01\x01\x01\x03\x05" + deep, api.ErrDeep}, {"\x03\x01\x01\x01\x03\x05" + long, api.ErrLong}, {"\x03\x00\x01\x00\x04\x63" + deep, api.ErrDeep}, {"\x0c\x00\x02\x00\x04\x63\x01\x20\x00\x04\x63" + long, api.ErrLong},
		{"\x03\x01\x01\x01" + at + "\x05" + deep, api.ErrForm}, {"\x03\x01\x01\x01\x03" + at + long, api.ErrForm},
		// A Self that is too great is met ahead of these.
		{at + "\x01\x01\x01\x03\x05" + deep, api.ErrForm}, {"\x0c\x01\x01\x01\x03\x05" + deep, api.ErrDeep}, {"\x03" + greatest + "\x01\x01\x03\x05" + deep, api.ErrDeep},
		{"\x03\x01\x01\x01\x03\x05" + deep + "\x01" + at, api.ErrDeep},
		// As many as are told aren't there.
		{"\x03\x00" + greatest, api.ErrForm}, {"\x03\x00\x00" + greatest, api.ErrForm}, {"\x03\x00\x00\x00" + greatest, api.ErrForm}, {"\x03\x00\x00\x00" + greatest + strings.Repeat("\x05\x01", 99), api.ErrForm},
		{"\x03\x00" + greatest + strings.Repeat("\x01\x03\x05\x01\x20", 99) + "\x01\x03\x05" + deep, api.ErrDeep},
	} {
		if err := mustRead(t, []byte(x.p)); err != x.want {
			t.Errorf("%.40x: %d, wanted %d", x.p, err, x.want)
		}
	}
	if d, err := Read(nil); d != nil || err != api.ErrForm {
		t.Error(err)
	}
}

// P15.4: all short rows of a few gifts, nodes and marks.
func TestReadRows(t *testing.T) {
	one := id.One()
	var pending [][]Gift
	var given [][]int
	var marks [][]Mark
	few := func(n, many int, add func(l []int)) {
		lists := [][]int{nil}
		for at := 0; at < len(lists); at++ {
			add(lists[at])
			if len(lists[at]) < many {
				for k := range n {
					lists = append(lists, append(slices.Clone(lists[at]), k))
				}
			}
		}
	}
	gifts := []Gift{{1, 3, 5, one}, {2, 3, 0, one}, {3, 3, 5, one}, {2, 4, 5, one}, {2, 3, 5, id.Zero()}}
	few(len(gifts), 3, func(l []int) {
		var some []Gift
		for _, k := range l {
			some = append(some, gifts[k])
		}
		pending = append(pending, some)
	})
	few(4, 2, func(l []int) {
		var some []int
		for _, k := range l {
			some = append(some, []int{0, 3, 5, 12}[k])
		}
		given = append(given, some)
	})
	all := []Mark{{0, 1}, {0, 2}, {5, 1}, {3, 1}, {12, 1}, {5, 0}}
	few(len(all), 2, func(l []int) {
		var some []Mark
		for _, k := range l {
			some = append(some, all[k])
		}
		marks = append(marks, some)
	})
	fine := 0
	for _, p := range pending {
		for _, g := range given {
			for _, m := range marks {
				for _, last := range []uint64{2, 3} {
					if mustRead(t, deedsBytes(3, last, p, g, m)) == api.OK {
						fine++
					}
				}
			}
		}
	}
	if fine < 50 {
		t.Error(fine)
	}
}

// someDeeds are ones at random.
func someDeeds(t *testing.T, rnd *rand.Rand) *Deeds {
	t.Helper()
	d := New(rnd.Intn(12))
	for range rnd.Intn(30) {
		d.Give(rnd.Intn(12), []id.ID{id.One(), parseID(t, "((0,1),0)")}[rnd.Intn(2)])
		d.Done(uint64(rnd.Intn(int(d.Last()) + 1)))
		d.Take(Gift{uint64(rnd.Intn(200)), rnd.Intn(12), d.Self(), id.One()})
	}
	return d
}

// P15.4: deeds that are cut, and of which one byte is another one.
func TestReadNearly(t *testing.T) {
	rnd := rand.New(rand.NewSource(154))
	for range 100 {
		p := someDeeds(t, rnd).Bytes()
		if err := mustRead(t, p); err != api.OK {
			t.Fatal(err)
		}
		for at := range p {
			mustRead(t, p[:at])
			mustGet(t, p[at:])
			for _, b := range []byte{0, 1, 2, 3, 12, 0x20, 0x80, 0xff, p[at] + 1, p[at] - 1} {
				mustRead(t, slices.Concat(p[:at], []byte{b}, p[at+1:]))
				mustRead(t, slices.Concat(p[:at], []byte{b}, p[at:]))
			}
		}
		mustRead(t, append(p, 0))
	}
}

// P15.4, P1: all short bytes of some kinds, and any bytes.
func TestReadAny(t *testing.T) {
	given := []string{""}
	for at := 0; len(given[at]) < 6; at++ {
		for _, b := range []byte{0, 1, 2, 3, 5, 0x20, 0x80} {
			given = append(given, given[at]+string([]byte{b}))
		}
	}
	for _, p := range given {
		mustRead(t, []byte(p))
		mustRead(t, []byte("\x03\x02\x01\x01\x03"+p))
		mustGet(t, []byte(p))
	}
	rnd := rand.New(rand.NewSource(1541))
	for range 50000 {
		p := make([]byte, rnd.Intn(20))
		rnd.Read(p)
		mustRead(t, p)
		mustGet(t, p)
	}
}

// P1: however much is told, the call ends soon.
func TestReadMuch(t *testing.T) {
	var marks []Mark
	var gifts []Gift
	var nodes []int
	for n := range 100000 {
		marks = append(marks, Mark{5, uint64(n + 1)})
		gifts = append(gifts, Gift{uint64(n + 1), 3, n % 1000, id.One()})
		nodes = append(nodes, n)
	}
	if d, err := Read(deedsBytes(3, 0, nil, nil, marks)); err != api.OK || !slices.Equal(d.Marks(), marks) {
		t.Error(err)
	}
	for _, p := range [][]byte{deedsBytes(3, 100000, gifts, []int{0, 1, 2}, nil), deedsBytes(3, 0, nil, nodes, nil)} {
		if d, err := Read(p); err != api.ErrForm || d != nil {
			t.Error(err)
		}
	}
}

// Deeds that were read go on.
func TestReadGoesOn(t *testing.T) {
	rnd := rand.New(rand.NewSource(1542))
	for range 200 {
		d := someDeeds(t, rnd)
		e, err := Read(d.Bytes())
		if err != api.OK {
			t.Fatal(err)
		}
		for range 20 {
			s := step{kind: rnd.Intn(3), to: rnd.Intn(12), share: id.One(), no: uint64(rnd.Intn(40)), gift: Gift{uint64(rnd.Intn(200)), rnd.Intn(12), d.Self(), id.One()}}
			g, x := s.do(d)
			h, y := s.do(e)
			if x != y || !sameGift(g, h) || !bytes.Equal(d.Bytes(), e.Bytes()) {
				t.Fatalf("%+v: %v %d, %v %d", s, g, x, h, y)
			}
		}
	}
}

// What is handed in isn't changed and isn't kept; answers are new memory.
func TestBytesMemory(t *testing.T) {
	rnd := rand.New(rand.NewSource(1543))
	for range 50 {
		d := someDeeds(t, rnd)
		before := d.Bytes()
		roomy := append(bytes.Clone(before), bytes.Repeat([]byte{0xee}, 50)...)
		all := bytes.Clone(roomy)
		e, err := Read(roomy[:len(before)])
		if err != api.OK || !bytes.Equal(roomy, all) {
			t.Fatal(err)
		}
		scrub(roomy, 0x77)
		if !bytes.Equal(e.Bytes(), before) {
			t.Fatal("kept")
		}
		g := Gift{uint64(rnd.Intn(1000)), 3, 5, id.One()}
		p := append(bytes.Repeat([]byte{0x55}, 3), bytes.Repeat([]byte{0xee}, 40)...)
		got := PutGift(p[:3], g)
		if !bytes.Equal(got, append([]byte{0x55, 0x55, 0x55}, giftBytes(g)...)) || bytes.Count(p, []byte{0xee}) != 40 {
			t.Fatal("changed")
		}
		scrub(got, 0x77)
		if bytes.Count(p, []byte{0x77}) > 0 {
			t.Fatal("shared")
		}
	}
}
