package disk

import (
	"bytes"
	"math"
	"slices"
	"testing"

	"kinfolk/api"
)

// model is a disk by the document's words.
type model struct {
	segs   map[uint64]string
	room   int
	full   bool
	down   bool
	writes int // until the power goes; 0: it doesn't
	torn   int
}

func newModel(room int) *model { return &model{segs: map[uint64]string{}, room: max(0, room)} }

func (m *model) used() int {
	n := 0
	for _, s := range m.segs {
		n += len(s)
	}
	return n
}

// last counts a write that has no error, and says whether the power goes.
func (m *model) last() bool {
	if m.writes == 0 {
		return false
	}
	m.writes--
	if m.writes == 0 {
		m.down = true
	}
	return m.down
}

func (m *model) append(seg uint64, p string) api.Errno {
	if m.down {
		return api.ErrDown
	}
	if m.full || m.used()+len(p) > m.room {
		return api.ErrFull
	}
	if !m.last() {
		m.segs[seg] += p
		return api.OK
	}
	done := ""
	for i := range len(p) {
		if i < m.torn {
			done += p[i : i+1]
		}
	}
	m.segs[seg] += done
	return api.ErrDown
}

func (m *model) drop(seg uint64) api.Errno {
	if m.down {
		return api.ErrDown
	}
	if _, ok := m.segs[seg]; !ok {
		return api.ErrNone
	}
	err := api.OK
	if m.last() {
		err = api.ErrDown
	}
	if err == api.OK || m.torn >= 1 {
		delete(m.segs, seg)
	}
	return err
}

func (m *model) arm(writes, torn int) {
	m.writes, m.torn = writes, torn
	if writes < 0 {
		m.writes = 0
	}
}

func (m *model) copy() *model {
	c := *m
	c.segs = map[uint64]string{}
	for seg, s := range m.segs {
		c.segs[seg] = s
	}
	return &c
}

// numbers are those of segments that the tests use, and of one that is never
// there.
var numbers = []uint64{0, 1, 2, 3, 77, math.MaxUint64}

// mustTell asks what a disk tells, by what it should be.
func mustTell(t *testing.T, d *Disk, m *model) {
	t.Helper()
	if d.Used() != m.used() || d.Room() != m.room || d.Armed() != m.writes || d.Up() == m.down {
		t.Fatalf("used %d, room %d, armed %d, up %v; wanted %+v", d.Used(), d.Room(), d.Armed(), d.Up(), m)
	}
	var segs []uint64
	for _, seg := range numbers {
		want, ok := m.segs[seg]
		if p, there := d.Read(seg); there != ok || string(p) != want {
			t.Fatalf("%d: %q, %v; wanted %q, %v", seg, p, there, want, ok)
		}
		if ok {
			segs = append(segs, seg)
		}
	}
	if len(segs) != len(m.segs) || !slices.Equal(d.Segs(), segs) {
		t.Fatalf("%v, wanted %+v", d.Segs(), m)
	}
}

// A step does one thing with a disk and with its model, and answers the errors
// of both.
type step func(d *Disk, m *model) (api.Errno, api.Errno)

func appends(seg uint64, p string) step {
	return func(d *Disk, m *model) (api.Errno, api.Errno) { return d.Append(seg, []byte(p)), m.append(seg, p) }
}

func drops(seg uint64) step {
	return func(d *Disk, m *model) (api.Errno, api.Errno) { return d.Drop(seg), m.drop(seg) }
}

func arms(writes, torn int) step {
	return func(d *Disk, m *model) (api.Errno, api.Errno) {
		d.Arm(writes, torn)
		m.arm(writes, torn)
		return 0, 0
	}
}

func fills(on bool) step {
	return func(d *Disk, m *model) (api.Errno, api.Errno) {
		d.Full(on)
		m.full = on
		return 0, 0
	}
}

func goesOff(d *Disk, m *model) (api.Errno, api.Errno) {
	d.Off()
	m.down = true
	return 0, 0
}

func comesOn(d *Disk, m *model) (api.Errno, api.Errno) {
	d.On()
	m.down, m.writes = false, 0
	return 0, 0
}

func (s step) must(t *testing.T, d *Disk, m *model) {
	t.Helper()
	got, want := s(d, m)
	if got != want {
		t.Fatalf("%d, wanted %d, of %+v", got, want, m)
	}
	mustTell(t, d, m)
}

// scrub writes over bytes, their spare room too.
func scrub(p []byte) {
	p = p[:cap(p)]
	copy(p, bytes.Repeat([]byte{0xee}, len(p)))
}

// roomy answers p with spare room, and a look at the whole of it.
func roomy(p string) ([]byte, []byte) {
	whole := append([]byte(p), bytes.Repeat([]byte{0x55}, 100)...)
	return whole[:len(p)], whole
}
