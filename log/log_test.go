package log

import (
	"bytes"
	"encoding/binary"
	"math"
	"slices"
	"strings"
	"testing"

	"kinfolk/api"
	"kinfolk/disk"
)

// P12.1: the document's example.
func TestNamed(t *testing.T) {
	d := disk.New(1000)
	l := mustOpen(t, d, 100)
	if l.Save([]byte("s")) != api.OK || l.Put([]byte("a")) != api.OK {
		t.Fatal("errors")
	}
	d.Arm(1, 3)
	if l.Put([]byte("b")) != api.ErrDown {
		t.Fatal("up")
	}
	d.On()
	mustTell(t, mustOpen(t, d, 100), told{torn: true, state: "s", records: []string{"a"}, seg: 1})
}

// pieces are what segments of the tests are made of, whole ones and others.
func pieces() []string {
	s, r := stateFrame("s"), recordFrame("ab")
	wrong := []byte(recordFrame("x"))
	wrong[4] ^= 1
	great := binary.LittleEndian.AppendUint32(nil, 1<<20+1)
	return []string{
		s, stateFrame(""), r, recordFrame(""), recordFrame("\x00"), recordFrame("\x01"),
		framed(""), framed("\x02z"), framed("\xff"), "\x00", "\x01", s[:7], s[:8], r[:len(r)-1], string(wrong), string(great) + strings.Repeat("y", 9),
	}
}

// P12.1: all segments of a few pieces.
func TestPieces(t *testing.T) {
	all := pieces()
	for _, a := range append(all, "") {
		for _, b := range append(all, "") {
			for _, c := range append(all, "") {
				d := diskOf(t, map[uint64]string{1: a + b + c})
				mustOpen(t, d, 1)
				mustOpen(t, d, 20)
			}
		}
	}
}

// P12.1: of several segments the one with the greatest number counts, of those
// that begin with a state; the segment 0 is none of the log's.
func TestSegments(t *testing.T) {
	s, other := stateFrame("s")+recordFrame("a"), stateFrame("t")
	lie := []string{s, other, other + "torn", s[:9], recordFrame("r") + s, framed("") + s, framed("\x02") + s, ""}
	for _, a := range lie {
		for _, b := range lie {
			for _, c := range lie {
				for _, at := range [][3]uint64{{0, 1, 2}, {1, 2, 3}, {2, 9, 10}, {1, 255, 256}, {0, 1, math.MaxUint64}, {1, 1 << 63, math.MaxUint64}} {
					mustOpen(t, diskOf(t, map[uint64]string{at[0]: a, at[1]: b, at[2]: c}), 30)
				}
			}
		}
	}
	mustTell(t, mustOpen(t, diskOf(t, map[uint64]string{0: s}), 30), told{empty: true, torn: true})
	mustTell(t, mustOpen(t, diskOf(t, map[uint64]string{1: s, 2: other, 3: other[:8]}), 30), told{state: "t", seg: 2})
}

// P12.1: a segment that is cut anywhere, and one of which a bit is turned.
func TestFaults(t *testing.T) {
	whole := stateFrame("state") + recordFrame("one") + recordFrame("") + recordFrame("three")
	for n := range len(whole) + 1 {
		mustOpen(t, diskOf(t, map[uint64]string{3: whole[:n], 1: stateFrame("old")}), 40)
	}
	for bit := range 8 * len(whole) {
		p := []byte(whole)
		p[bit/8] ^= 1 << (bit % 8)
		mustOpen(t, diskOf(t, map[uint64]string{3: string(p), 1: stateFrame("old")}), 40)
	}
}

// P12.1: the errors of Open, in their order.
func TestOpenErrors(t *testing.T) {
	up, down := disk.New(100), disk.New(100)
	down.Off()
	for _, c := range []struct {
		d    *disk.Disk
		size int
		want api.Errno
	}{
		{nil, 0, api.ErrArg}, {nil, -1, api.ErrArg}, {nil, math.MinInt, api.ErrArg}, {nil, 1, api.ErrNone}, {nil, math.MaxInt, api.ErrNone},
		{up, 0, api.ErrArg}, {down, 0, api.ErrArg}, {down, 1, api.ErrDown}, {up, 1, api.OK}, {up, math.MaxInt, api.OK},
	} {
		l, err := Open(c.d, c.size)
		if err != c.want || (l == nil) != (err != api.OK) {
			t.Fatalf("%+v: %d", c, err)
		}
	}
	if len(up.Segs()) != 0 || up.Room() != 100 {
		t.Fatal("written")
	}
}

// P12.2: what writes do to the disk's bytes.
func TestWrites(t *testing.T) {
	d := disk.New(1000)
	l := mustOpen(t, d, 20)
	mustLie := func(segs map[uint64]string) {
		t.Helper()
		if !disk.Same(d, diskOf(t, segs)) {
			t.Fatal(d.Segs())
		}
		mustTell(t, l, toldOf(d, 20))
		mustOpen(t, d, 20)
	}
	if l.Put([]byte("a")) != api.ErrState || l.Save([]byte("s")) != api.OK {
		t.Fatal("errors")
	}
	mustLie(map[uint64]string{1: stateFrame("s")})
	if l.Put([]byte("a")) != api.OK || l.Put(nil) != api.OK || l.Put([]byte("\x01")) != api.OK {
		t.Fatal("errors")
	}
	mustLie(map[uint64]string{1: stateFrame("s") + recordFrame("a") + recordFrame("") + recordFrame("\x01")})
	if l.Save(nil) != api.OK {
		t.Fatal("errors")
	}
	mustLie(map[uint64]string{2: stateFrame("")})
	if l.Save([]byte("u")) != api.OK || l.Put([]byte("b")) != api.OK {
		t.Fatal("errors")
	}
	mustLie(map[uint64]string{3: stateFrame("u") + recordFrame("b")})
}

// P12.2: the new segment's number is one above the greatest of any, and all
// others go.
func TestSaveNumbers(t *testing.T) {
	s := stateFrame("old")
	for _, c := range []struct {
		segs map[uint64]string
		want uint64
	}{
		{nil, 1}, {map[uint64]string{0: ""}, 1}, {map[uint64]string{0: s}, 1}, {map[uint64]string{1: s}, 2}, {map[uint64]string{1: s, 2: "x"}, 3},
		{map[uint64]string{1: s, 2: s, 3: s, 9: ""}, 10}, {map[uint64]string{5: "x"}, 6}, {map[uint64]string{0: s, 1: s, 1 << 40: s}, 1<<40 + 1},
		{map[uint64]string{3: s, math.MaxUint64 - 1: s[:9]}, math.MaxUint64},
	} {
		d := diskOf(t, c.segs)
		l := mustOpen(t, d, 50)
		if err := l.Save([]byte("new")); err != api.OK || !disk.Same(d, diskOf(t, map[uint64]string{c.want: stateFrame("new")})) {
			t.Fatal(err, c.segs, d.Segs())
		}
		mustTell(t, l, told{state: "new", seg: c.want})
		mustOpen(t, d, 50)
	}
}

// P12.2: above the greatest number of all there is none.
func TestNoNumber(t *testing.T) {
	for _, p := range []string{"x", stateFrame("s")} {
		d := diskOf(t, map[uint64]string{4: stateFrame("old"), math.MaxUint64: p})
		l, before := mustOpen(t, d, 50), d.Copy()
		if l.Save([]byte("new")) != api.ErrFull || l.Save(make([]byte, api.MaxRecord)) != api.ErrLong || !disk.Same(d, before) {
			t.Fatal(d.Segs())
		}
		mustTell(t, l, toldOf(d, 50))
		d.Off()
		if l.Save([]byte("new")) != api.ErrDown || !disk.Same(d, before) {
			t.Fatal(d.Segs())
		}
	}
}

// P12.2: the others are dropped rising, behind the new one.
func TestSaveDrops(t *testing.T) {
	s := stateFrame("old")
	segs := map[uint64]string{0: s, 2: s, 3: "x", 7: s + recordFrame("r")}
	for writes := 1; writes <= 5; writes++ {
		for torn := range 2 {
			d := diskOf(t, segs)
			l := mustOpen(t, d, 50)
			d.Arm(writes, torn)
			want := []uint64{0, 2, 3, 7, 8}[max(writes-2+torn, 0):]
			if writes == 1 {
				want = []uint64{0, 2, 3, 7, 8}
			}
			if l.Save([]byte("new")) != api.ErrDown || !slices.Equal(d.Segs(), want) {
				t.Fatal(writes, torn, d.Segs())
			}
		}
	}
}

// P12.1, P12.2: a part of the most bytes, and of one more.
func TestLongest(t *testing.T) {
	most := bytes.Repeat([]byte("m"), api.MaxRecord-1)
	more := append(bytes.Clone(most), 'm')
	d := disk.New(1 << 23)
	l := mustOpen(t, d, 1<<20)
	if l.Save(more) != api.ErrLong || l.Put(more) != api.ErrLong || len(d.Segs()) != 0 {
		t.Fatal("empty")
	}
	if l.Save(most) != api.OK || !l.Long() || l.Put(most) != api.OK || l.Put(more) != api.ErrLong || l.Save(more) != api.ErrLong {
		t.Fatal("errors")
	}
	mustTell(t, l, told{long: true, state: string(most), records: []string{string(most)}, seg: 1})
	if d.Used() != 2*(api.MaxRecord+8) {
		t.Fatal(d.Used())
	}
	mustTell(t, mustOpen(t, d, d.Used()), told{state: string(most), records: []string{string(most)}, seg: 1})
}

// P12.2: which error is told, of several.
func TestWriteErrors(t *testing.T) {
	long := make([]byte, api.MaxRecord)
	whole, torn := stateFrame("s")+recordFrame("a"), stateFrame("s")+"torn"
	for _, c := range []struct {
		lies              string
		down, full        bool
		p                 []byte
		wantPut, wantSave api.Errno
	}{
		{whole, false, false, nil, api.OK, api.OK},
		{whole, true, false, nil, api.ErrDown, api.ErrDown},
		{whole, false, true, nil, api.ErrFull, api.ErrFull},
		{whole, true, true, nil, api.ErrDown, api.ErrDown},
		{whole, true, true, long, api.ErrLong, api.ErrLong},
		{torn, false, false, nil, api.ErrState, api.OK},
		{torn, true, false, nil, api.ErrState, api.ErrDown},
		{torn, false, true, nil, api.ErrState, api.ErrFull},
		{torn, true, true, long, api.ErrLong, api.ErrLong},
		{"", false, false, nil, api.ErrState, api.OK},
		{"", true, true, nil, api.ErrState, api.ErrDown},
		{"", false, false, long, api.ErrLong, api.ErrLong},
	} {
		for _, saves := range []bool{false, true} {
			d := diskOf(t, map[uint64]string{1: c.lies})
			l := mustOpen(t, d, 18)
			want, before := toldOf(d, 18), d.Copy()
			d.Full(c.full)
			if c.down {
				d.Off()
			}
			err, wanted := op{save: saves, p: string(c.p)}.do(l), c.wantPut
			if saves {
				wanted = c.wantSave
			}
			if err != wanted || disk.Same(d, before) != (err != api.OK) {
				t.Fatalf("%.20q %v: %d, wanted %d", c.lies, saves, err, wanted)
			}
			if err == api.OK {
				want = toldOf(d, 18)
			}
			mustTell(t, l, want)
		}
	}
}

// P12.2: in too little room nothing changes, and it goes on.
func TestFull(t *testing.T) {
	used := len(stateFrame("s") + recordFrame("abc"))
	for room := range 2*used + 2 {
		d := disk.New(room)
		l := mustOpen(t, d, 20)
		for _, o := range []op{save("s"), put("abc"), save("state"), put("abc"), put(""), save(""), put("abcdef")} {
			before, want := d.Copy(), toldOf(d, 20)
			fits := d.Used()+9+len(o.p) <= room
			err := o.do(l)
			switch {
			case !o.save && want.empty:
				if err != api.ErrState {
					t.Fatal(room, o, err)
				}
			case fits != (err == api.OK) || !fits && err != api.ErrFull:
				t.Fatal(room, o, err)
			}
			if err != api.OK && !disk.Same(d, before) {
				t.Fatal(room, o)
			}
			mustTell(t, l, toldOf(d, 20))
		}
	}
}

// P12.2: more than size bytes, of all frames together, the state's too; what
// is torn is none.
func TestLong(t *testing.T) {
	for n := range 60 {
		for size := 1; size < 80; size++ {
			l := mustOpen(t, disk.New(1000), size)
			if l.Long() || l.Save(make([]byte, n/2)) != api.OK || l.Long() != (9+n/2 > size) {
				t.Fatal(n, size)
			}
			if l.Put(make([]byte, n-n/2)) != api.OK || l.Long() != (18+n > size) {
				t.Fatal(n, size)
			}
		}
	}
	d := diskOf(t, map[uint64]string{1: stateFrame("s") + recordFrame("a")[:9]})
	if l := mustOpen(t, d, 10); l.Long() || !l.Torn() {
		t.Fatal("torn")
	}
	if l := mustOpen(t, d, math.MaxInt); l.Long() {
		t.Fatal("much")
	}
	if l := mustOpen(t, disk.New(9), 1); l.Long() || l.Save(nil) != api.OK || !l.Long() {
		t.Fatal("little")
	}
}

// P12.1: the records are those that there are when it is called, gone through
// as often, and as far, as one likes.
func TestRecords(t *testing.T) {
	l := mustOpen(t, disk.New(1000), 100)
	none := l.Records()
	for _, o := range []op{save("s"), put("a"), put(""), put("ccc")} {
		if err := o.do(l); err != api.OK {
			t.Fatal(err)
		}
	}
	all, want := l.Records(), []string{"a", "", "ccc"}
	for most := range 4 {
		if !slices.Equal(collect(all, most), want[:most]) {
			t.Fatal(most)
		}
	}
	for p := range all {
		if err := l.Put(p); err != api.OK || l.Count() > 6 {
			t.Fatal(err, l.Count())
		}
	}
	if l.Count() != 6 || !slices.Equal(collect(l.Records(), -1), append(want, want...)) {
		t.Fatal(l.Count())
	}
	for range all {
		if err := l.Save([]byte("t")); err != api.OK {
			t.Fatal(err)
		}
	}
	if !slices.Equal(collect(all, -1), want) || len(collect(none, -1)) != 0 || len(collect(l.Records(), -1)) != 0 {
		t.Fatal("again")
	}
}

// P1: nil logs.
func TestNil(t *testing.T) {
	var l *Log
	long := make([]byte, api.MaxRecord)
	if l.Put(nil) != api.ErrNone || l.Put(long) != api.ErrNone || l.Save(nil) != api.ErrNone || l.Save(long) != api.ErrNone {
		t.Fatal("errors")
	}
	if l.Disk() != nil || l.State() != nil {
		t.Fatal("told")
	}
	mustTell(t, l, told{empty: true, torn: true})
}

// What is handed in isn't changed and isn't kept; answers are new memory.
func TestMemory(t *testing.T) {
	d := disk.New(10000)
	l := mustOpen(t, d, 100)
	for k, o := range []op{save("state"), put("a"), put(""), put("record"), save("new"), put("b"), put("cd"), save("")} {
		p := append([]byte(o.p), bytes.Repeat([]byte{0x55}, 50)...)
		before := bytes.Clone(p)
		if err := o.doWith(l, p[:len(o.p)]); err != api.OK || !bytes.Equal(p, before) {
			t.Fatal(k, err)
		}
		scrub(p)
		want := toldOf(d, 100)
		mustTell(t, l, want)
		all := l.Records()
		for range 2 {
			scrub(l.State())
			for r := range all {
				scrub(r)
			}
			mustTell(t, l, want)
		}
		if !slices.Equal(collect(all, -1), want.records) {
			t.Fatal(k)
		}
	}
}
