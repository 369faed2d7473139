package disk

import (
	"bytes"
	"math"
	"math/rand"
	"slices"
	"strings"
	"testing"

	"kinfolk/api"
)

// P11.2: the document's example.
func TestNamed(t *testing.T) {
	d := New(100)
	d.Arm(2, 1)
	if d.Append(1, []byte("a")) != api.OK || d.Append(1, []byte("bc")) != api.ErrDown {
		t.Fatal("errors")
	}
	if p, ok := d.Read(1); !ok || string(p) != "ab" {
		t.Fatal(p)
	}
}

// rows does each row of so many steps with a disk and its model, and goes on
// with copies, so that each row is a disk of its own.
func rows(t *testing.T, d *Disk, m *model, steps []step, many int) {
	t.Helper()
	if many == 0 {
		return
	}
	for _, s := range steps {
		dd, mm := d.Copy(), m.copy()
		s.must(t, dd, mm)
		rows(t, dd, mm, steps, many-1)
	}
	mustTell(t, d, m)
}

// P11.1, P11.2: all short rows of steps, in little room.
func TestAllRows(t *testing.T) {
	steps := []step{
		appends(1, ""), appends(1, "a"), appends(2, "bcd"), appends(0, "ef"), drops(1), drops(2),
		arms(1, 0), arms(1, 1), arms(1, 2), arms(2, 1), arms(0, 1), arms(-1, 1), goesOff, comesOn, fills(true), fills(false),
	}
	for _, room := range []int{0, 1, 3, 4, 100} {
		rows(t, New(room), newModel(room), steps, 4)
	}
	// From a disk that has something.
	d, m := New(6), newModel(6)
	for _, s := range []step{appends(1, "xy"), appends(2, ""), arms(2, 2)} {
		s.must(t, d, m)
	}
	rows(t, d, m, steps, 4)
}

// P11.1, P11.2: long rows at random.
func TestLongRows(t *testing.T) {
	rnd := rand.New(rand.NewSource(11))
	for range 400 {
		room := rnd.Intn(60)
		d, m := New(room), newModel(room)
		for range 200 {
			seg := numbers[rnd.Intn(len(numbers))]
			s := appends(seg, strings.Repeat("xyz", 9)[:rnd.Intn(20)])
			switch rnd.Intn(12) {
			case 0, 1:
				s = drops(seg)
			case 2:
				s = arms(rnd.Intn(8)-1, rnd.Intn(12)-2)
			case 3:
				s = fills(rnd.Intn(4) == 0)
			case 4:
				s = goesOff
			case 5, 6:
				s = comesOn
			}
			s.must(t, d, m)
		}
	}
}

// P11.1: how much room there is.
func TestRoom(t *testing.T) {
	for room, want := range map[int]int{math.MinInt: 0, -1: 0, 0: 0, 1: 1, math.MaxInt: math.MaxInt} {
		if got := New(room).Room(); got != want {
			t.Fatal(room, got)
		}
		if d := New(room); d.Append(1, nil) != api.OK || !slices.Equal(d.Segs(), []uint64{1}) || !d.Up() || d.Armed() != 0 || d.Used() != 0 {
			t.Fatal(room)
		}
	}
	for room := range 40 {
		for first := range room + 2 {
			d, m := New(room), newModel(room)
			appends(1, strings.Repeat("a", first)).must(t, d, m)
			appends(2, strings.Repeat("b", room-min(first, room)+1)).must(t, d, m)
			appends(2, strings.Repeat("b", room-min(first, room))).must(t, d, m)
			appends(3, "").must(t, d, m)
			appends(3, "c").must(t, d, m)
			drops(1).must(t, d, m)
			appends(3, strings.Repeat("d", first)).must(t, d, m)
		}
	}
	if d := New(math.MaxInt); d.Append(1, []byte("abc")) != api.OK || d.Append(2, make([]byte, 1<<20)) != api.OK || d.Used() != 1<<20+3 {
		t.Fatal("much room")
	}
}

// P11.1: told to be full it takes nothing, not even no bytes; but drops.
func TestFull(t *testing.T) {
	d, m := New(10), newModel(10)
	for _, s := range []step{
		appends(1, "abc"), fills(true), appends(1, ""), appends(2, ""), appends(1, "d"), arms(1, 9), appends(1, "d"), drops(5), goesOff,
		appends(1, "d"), comesOn, appends(1, "d"), fills(true), fills(false), appends(1, "d"), fills(true), drops(1), appends(1, ""), fills(false), appends(1, "abcdefghij"),
	} {
		s.must(t, d, m)
	}
}

// P11.1: all is told of a disk that is down, too.
func TestToldDown(t *testing.T) {
	d, m := New(10), newModel(10)
	for _, s := range []step{appends(3, "abc"), appends(1, ""), goesOff, appends(3, "d"), appends(7, ""), appends(3, strings.Repeat("d", 20)), drops(3), drops(77), fills(true), appends(3, "d")} {
		s.must(t, d, m)
	}
	if c := d.Copy(); c.Up() || !Same(c, d) || c.Append(1, nil) != api.ErrDown {
		t.Fatal("copy")
	}
}

// P11.2: each write at which the power may go, torn anywhere.
func TestTorn(t *testing.T) {
	body := "0123456789"
	for size := range 11 {
		for _, torn := range []int{math.MinInt, -5, -1, 0, 1, 2, 5, 9, 10, 11, math.MaxInt} {
			for writes := 1; writes < 6; writes++ {
				d, m := New(60), newModel(60)
				arms(writes, torn).must(t, d, m)
				for k := range 7 {
					appends(uint64(k%4), body[:size]).must(t, d, m)
				}
				comesOn(d, m)
				appends(2, "on").must(t, d, m)
				arms(writes, torn).must(t, d, m)
				for _, seg := range []uint64{2, 77, 1, 1, 0, 3, 2} {
					drops(seg).must(t, d, m)
				}
			}
		}
	}
}

// P11.2: a write that has an error doesn't count.
func TestArmedErrors(t *testing.T) {
	d, m := New(4), newModel(4)
	for _, s := range []step{
		appends(1, "abc"), arms(2, 1), appends(1, "de"), drops(5), fills(true), appends(1, ""), fills(false), goesOff, appends(1, "d"), drops(1),
	} {
		s.must(t, d, m)
	}
	if d.Armed() != 2 {
		t.Fatal(d.Armed())
	}
	// It may be armed while it is down, but comes on without it.
	for _, s := range []step{arms(1, 3), comesOn, appends(2, "d"), arms(1, 3), arms(3, 1), drops(2), arms(math.MinInt, 1), appends(2, "d"), arms(math.MaxInt, 0), drops(2), arms(1, 1), drops(1), drops(1)} {
		s.must(t, d, m)
	}
	if d.Up() || d.Armed() != 0 {
		t.Fatal("up")
	}
}

// P11.2: copies go their own ways.
func TestCopy(t *testing.T) {
	rnd := rand.New(rand.NewSource(12))
	for range 300 {
		disks, models := []*Disk{New(90)}, []*model{newModel(90)}
		for range 60 {
			at := rnd.Intn(len(disks))
			d, m := disks[at], models[at]
			seg := uint64(rnd.Intn(3))
			switch rnd.Intn(8) {
			case 0:
				disks, models = append(disks, d.Copy()), append(models, m.copy())
			case 1:
				drops(seg).must(t, d, m)
			case 2:
				arms(rnd.Intn(4), rnd.Intn(4)).must(t, d, m)
			case 3:
				fills(rnd.Intn(3) == 0).must(t, d, m)
			case 4:
				comesOn(d, m)
			default:
				appends(seg, string(bytes.Repeat([]byte{'a' + byte(rnd.Intn(26))}, rnd.Intn(5)))).must(t, d, m)
			}
			for k := range disks {
				mustTell(t, disks[k], models[k])
			}
		}
	}
}

// P11.1: the same segments, of the same bytes, whatever else.
func TestSame(t *testing.T) {
	var disks []*Disk
	var models []*model
	for _, l := range [][]step{
		nil, {appends(1, "")}, {appends(0, "")}, {appends(1, "a")}, {appends(1, "b")}, {appends(2, "a")}, {appends(1, "ab")}, {appends(1, "a"), appends(1, "b")},
		{appends(1, "a"), appends(2, "")}, {appends(2, ""), appends(1, "a")}, {appends(1, "a"), appends(2, "b")}, {appends(1, "a"), drops(1)}, {appends(1, "a"), fills(true), goesOff}, {arms(1, 1), appends(1, "ab")},
		{arms(4, 1), appends(1, "a")},
	} {
		for _, room := range []int{9, 100} {
			d, m := New(room), newModel(room)
			for _, s := range l {
				s.must(t, d, m)
			}
			disks, models = append(disks, d), append(models, m)
		}
	}
	same := func(a, b *model) bool {
		for _, seg := range numbers {
			p, ok := a.segs[seg]
			if q, there := b.segs[seg]; ok != there || p != q {
				return false
			}
		}
		return true
	}
	for i, a := range disks {
		for j, b := range disks {
			if Same(a, b) != same(models[i], models[j]) {
				t.Fatalf("%+v %+v", models[i], models[j])
			}
		}
		none := len(models[i].segs) == 0
		if Same(a, nil) != none || Same(nil, a) != none || !Same(a, a.Copy()) {
			t.Fatalf("%+v", models[i])
		}
	}
	if !Same(nil, nil) {
		t.Fatal("nil")
	}
}

// P1, P11.2: nil disks.
func TestNil(t *testing.T) {
	var d *Disk
	d.Full(true)
	d.Arm(1, 1)
	d.Off()
	d.On()
	if d.Append(1, []byte("a")) != api.ErrNone || d.Append(0, nil) != api.ErrNone || d.Drop(1) != api.ErrNone {
		t.Fatal("errors")
	}
	if p, ok := d.Read(1); ok || len(p) != 0 {
		t.Fatal(p)
	}
	if len(d.Segs()) != 0 || d.Used() != 0 || d.Room() != 0 || d.Armed() != 0 || d.Up() || d.Copy() != nil {
		t.Fatal("told")
	}
}

// What is handed in isn't changed and isn't kept; answers are new memory.
func TestMemory(t *testing.T) {
	d, m := New(1000), newModel(1000)
	check := func(p, whole, before []byte) {
		t.Helper()
		if !bytes.Equal(whole, before) {
			t.Fatal("changed")
		}
		scrub(whole)
		mustTell(t, d, m)
		for _, seg := range numbers {
			got, _ := d.Read(seg)
			scrub(got)
		}
		segs := d.Segs()
		segs = segs[:cap(segs)]
		for i := range segs {
			segs[i] = 5
		}
		mustTell(t, d, m)
	}
	for k := range 60 {
		c, cm := d.Copy(), m.copy()
		if k%7 == 6 {
			arms(1, k%4).must(t, d, m)
		}
		p, whole := roomy("abcdefg"[:k%8%7])
		before := bytes.Clone(whole)
		if d.Append(uint64(k%3), p) != m.append(uint64(k%3), string(p)) {
			t.Fatal(k)
		}
		check(p, whole, before)
		comesOn(d, m)
		mustTell(t, c, cm)
		// Both go on where they were alike.
		appends(uint64(k%3), "copy").must(t, c, cm)
		mustTell(t, d, m)
	}
}

// P1, P2: two disks that are told the same tell the same, whatever it is.
func TestAnything(t *testing.T) {
	rnd := rand.New(rand.NewSource(13))
	great := []int{math.MinInt, math.MinInt + 1, -1, 0, 1, 2, 3, math.MaxInt - 1, math.MaxInt}
	for range 500 {
		room := great[rnd.Intn(len(great))]
		d, e := New(room), New(room)
		for range 50 {
			seg, p := rnd.Uint64()>>rnd.Intn(64), make([]byte, rnd.Intn(3))
			writes, torn := great[rnd.Intn(len(great))], great[rnd.Intn(len(great))]
			var one, other api.Errno
			switch rnd.Intn(8) {
			case 0:
				d.Arm(writes, torn)
				e.Arm(writes, torn)
			case 1:
				d.On()
				e.On()
			case 2:
				one, other = d.Drop(seg), e.Drop(seg)
			default:
				one, other = d.Append(seg, p), e.Append(seg, p)
			}
			if one != other || !Same(d, e) || d.Armed() != e.Armed() || d.Up() != e.Up() || d.Used() != e.Used() || !slices.Equal(d.Segs(), e.Segs()) || !slices.IsSorted(d.Segs()) {
				t.Fatal(one, other)
			}
		}
	}
}
