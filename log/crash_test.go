package log

import (
	"bytes"
	"math/rand"
	"strings"
	"testing"

	"kinfolk/api"
	"kinfolk/disk"
)

// longestFrame is more bytes than any frame of the crash tests has.
const longestFrame = 16

// crash does rows with the power going at one write; it answers whether it
// went.
func crash(t *testing.T, ops []op, writes, torn int) bool {
	t.Helper()
	d := disk.New(1 << 20)
	l := mustOpen(t, d, 30)
	d.Arm(writes, torn)
	var have kept
	started := false
	for i, o := range ops {
		err := o.do(l)
		if err == api.OK {
			have, started = have.after(o), true
			continue
		}
		if err != api.ErrDown {
			t.Fatal(writes, torn, i, err)
		}
		d.On()
		again := mustOpen(t, d, 30)
		if next := have.after(o); !next.has(again) && !(started && have.has(again)) && !(!started && again.Empty()) {
			t.Fatalf("write %d, torn at %d: %+v", writes, torn, tells(again))
		}
		mustGoOn(t, again)
		return true
	}
	if !have.has(mustOpen(t, d, 30)) {
		t.Fatal(writes, torn)
	}
	return false
}

// mustGoOn asks that a log that was opened again takes more.
func mustGoOn(t *testing.T, l *Log) {
	t.Helper()
	have := kept{state: string(l.State()), records: collect(l.Records(), -1)}
	ops := []op{put("more"), put("")}
	if l.Torn() {
		if err := l.Put([]byte("more")); err != api.ErrState {
			t.Fatal(err)
		}
		ops = []op{save("saved"), put("more"), save("again"), put("")}
	}
	for _, o := range ops {
		if err := o.do(l); err != api.OK {
			t.Fatal(o, err)
		}
		have = have.after(o)
		if !have.has(l) || !have.has(mustOpen(t, l.Disk(), 30)) {
			t.Fatalf("%+v: %+v", o, tells(l))
		}
	}
}

// P12.3: wherever the power goes, torn anywhere.
func TestCrashes(t *testing.T) {
	for _, ops := range [][]op{
		{save("s")},
		{save("s"), put("a"), put("bc"), put("")},
		{save("s"), save("t"), save("")},
		{save("s"), put("a"), save("t"), put("b"), put("c"), save("u"), put("d")},
		{save(""), put(""), save(""), put(""), put("\x01"), save("\x00")},
	} {
		for torn := -1; torn <= longestFrame; torn++ {
			writes := 1
			for crash(t, ops, writes, torn) {
				writes++
			}
			if writes <= len(ops) {
				t.Fatal(writes)
			}
		}
	}
}

// P12.3: what is torn within the frame isn't there, and what is whole is.
func TestTorn(t *testing.T) {
	for torn := range longestFrame {
		d := disk.New(1000)
		l := mustOpen(t, d, 30)
		if l.Save([]byte("s")) != api.OK || l.Put([]byte("a")) != api.OK {
			t.Fatal("errors")
		}
		d.Arm(1, torn)
		if l.Put([]byte("b")) != api.ErrDown {
			t.Fatal(torn)
		}
		d.On()
		want := told{state: "s", records: []string{"a"}, seg: 1, torn: torn > 0}
		if torn >= 10 {
			want = told{state: "s", records: []string{"a", "b"}, seg: 1}
		}
		mustTell(t, mustOpen(t, d, 30), want)
		d.Arm(1, torn)
		l = mustOpen(t, d, 30)
		if l.Save([]byte("t")) != api.ErrDown {
			t.Fatal(torn)
		}
		d.On()
		if torn >= 10 {
			want = told{state: "t", seg: 2}
		}
		mustTell(t, mustOpen(t, d, 30), want)
	}
}

// P12.3: long rows at random, with crash upon crash, on a disk that is full at
// times.
func TestLongRows(t *testing.T) {
	rnd := rand.New(rand.NewSource(12))
	for range 300 {
		d := disk.New(200 + rnd.Intn(400))
		l := mustOpen(t, d, 100)
		var have kept
		started := false
		for range 150 {
			o := op{save: rnd.Intn(5) == 0 || l.Torn() && rnd.Intn(4) > 0 || l.Long(), p: strings.Repeat("\x00\x01ab", 8)[:rnd.Intn(32)]}
			if rnd.Intn(6) == 0 {
				d.Arm(1+rnd.Intn(4), rnd.Intn(50)-1)
			}
			d.Full(rnd.Intn(10) == 0)
			next := have.after(o)
			wasTorn := l.Torn()
			switch err := o.do(l); err {
			case api.OK:
				have, started = next, true
			case api.ErrFull:
			case api.ErrState:
				if o.save || !wasTorn {
					t.Fatal(o)
				}
			case api.ErrDown:
				d.On()
				l = mustOpen(t, d, 100)
				if next.has(l) {
					have, started = next, true
				}
			default:
				t.Fatal(err)
			}
			if started != have.has(l) || started == l.Empty() {
				t.Fatalf("%+v: %+v", have, tells(l))
			}
			mustTell(t, l, toldOf(d, 100))
		}
	}
}

// P1, P2: whatever lies on the disk, two logs that are told the same tell the
// same, and none panics.
func TestAnything(t *testing.T) {
	rnd := rand.New(rand.NewSource(13))
	all := pieces()
	for range 3000 {
		d := disk.New(rnd.Intn(300))
		for range rnd.Intn(8) {
			p := []byte(all[rnd.Intn(len(all))])
			if rnd.Intn(3) == 0 {
				p = bytes.Repeat([]byte{byte(rnd.Intn(3))}, rnd.Intn(12))
			}
			d.Append(rnd.Uint64()>>(64-rnd.Intn(65)), p)
			d.Append(uint64(rnd.Intn(3)), p)
		}
		e := d.Copy()
		size := 1 + rnd.Intn(40)
		l, m := mustOpen(t, d, size), mustOpen(t, e, size)
		for range 10 {
			o := op{save: rnd.Intn(3) == 0, p: all[rnd.Intn(len(all))]}
			if rnd.Intn(8) == 0 {
				writes, torn := rnd.Intn(5)-1, rnd.Intn(30)
				d.Arm(writes, torn)
				e.Arm(writes, torn)
			}
			if one, other := o.do(l), o.do(m); one != other || !disk.Same(d, e) || !tells(l).same(tells(m)) || l.Count() != m.Count() {
				t.Fatal(one, other)
			}
		}
	}
}
