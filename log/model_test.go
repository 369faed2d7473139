package log

import (
	"bytes"
	"encoding/binary"
	"hash/crc32"
	"iter"
	"slices"
	"strings"
	"testing"

	"kinfolk/api"
	"kinfolk/disk"
)

// told is what a log tells.
type told struct {
	empty, torn, long bool
	state             string
	records           []string
	seg               uint64
}

// framed answers the frame of a body, by layer 6's words.
func framed(body string) string {
	p := binary.LittleEndian.AppendUint32(nil, uint32(len(body)))
	sum := crc32.ChecksumIEEE(append(bytes.Clone(p), body...))
	return string(binary.LittleEndian.AppendUint32(p, sum)) + body
}

func stateFrame(s string) string { return framed("\x01" + s) }

func recordFrame(s string) string { return framed("\x00" + s) }

// wholeFrames answers the bodies of the whole frames that p begins with.
func wholeFrames(p string) []string {
	var bodies []string
	for len(p) >= 8 {
		n := uint64(binary.LittleEndian.Uint32([]byte(p)))
		if n > 1<<20 || n > uint64(len(p)-8) || framed(p[8:8+n]) != p[:8+n] {
			break
		}
		bodies = append(bodies, p[8:8+n])
		p = p[8+n:]
	}
	return bodies
}

// toldOf answers what the log on d must tell, by the chapter's words.
func toldOf(d *disk.Disk, size int) told {
	want := told{empty: true, torn: true}
	for _, seg := range d.Segs() {
		p, _ := d.Read(seg)
		bodies := wholeFrames(string(p))
		if seg == 0 || len(bodies) == 0 || !strings.HasPrefix(bodies[0], "\x01") {
			continue
		}
		want = told{state: bodies[0][1:], seg: seg}
		used := len(framed(bodies[0]))
		for _, body := range bodies[1:] {
			if !strings.HasPrefix(body, "\x00") {
				break
			}
			want.records = append(want.records, body[1:])
			used += len(framed(body))
		}
		want.torn, want.long = used < len(p), used > size
	}
	return want
}

// collect goes through records, at most so many.
func collect(l iter.Seq[[]byte], most int) []string {
	var all []string
	if most == 0 {
		return nil
	}
	for p := range l {
		all = append(all, string(p))
		if len(all) == most {
			break
		}
	}
	return all
}

func tells(l *Log) told {
	return told{empty: l.Empty(), torn: l.Torn(), long: l.Long(), state: string(l.State()), records: collect(l.Records(), -1), seg: l.Seg()}
}

func (a told) same(b told) bool {
	return a.empty == b.empty && a.torn == b.torn && a.long == b.long && a.state == b.state && slices.Equal(a.records, b.records) && a.seg == b.seg
}

// mustTell asks what a log tells, by what it should be.
func mustTell(t *testing.T, l *Log, want told) {
	t.Helper()
	if got := tells(l); !got.same(want) || l.Count() != len(want.records) {
		t.Fatalf("%+.200v, %d records; wanted %+.200v", got, l.Count(), want)
	}
}

// mustOpen opens the log on a disk, and holds it against the disk's bytes, that
// nothing is written to.
func mustOpen(t *testing.T, d *disk.Disk, size int) *Log {
	t.Helper()
	before := d.Copy()
	l, err := Open(d, size)
	if err != api.OK || l == nil || l.Disk() != d || !disk.Same(before, d) || before.Armed() != d.Armed() {
		t.Fatal(err, d.Segs())
	}
	mustTell(t, l, toldOf(d, size))
	return l
}

// diskOf answers a disk with segments.
func diskOf(t *testing.T, segs map[uint64]string) *disk.Disk {
	t.Helper()
	d := disk.New(1 << 30)
	for seg, p := range segs {
		if err := d.Append(seg, []byte(p)); err != api.OK {
			t.Fatal(err)
		}
	}
	return d
}

// An op is a Put, or a Save, of p.
type op struct {
	save bool
	p    string
}

func put(p string) op { return op{p: p} }

func save(p string) op { return op{save: true, p: p} }

func (o op) do(l *Log) api.Errno { return o.doWith(l, []byte(o.p)) }

// doWith does it with other bytes.
func (o op) doWith(l *Log, p []byte) api.Errno {
	if o.save {
		return l.Save(p)
	}
	return l.Put(p)
}

// kept is what a log must have, whatever segments it lies in.
type kept struct {
	state   string
	records []string
}

// after answers what must be there once o was done.
func (k kept) after(o op) kept {
	if o.save {
		return kept{state: o.p}
	}
	return kept{state: k.state, records: append(slices.Clone(k.records), o.p)}
}

// has says whether the log has just this.
func (k kept) has(l *Log) bool {
	return !l.Empty() && string(l.State()) == k.state && slices.Equal(collect(l.Records(), -1), k.records) && l.Count() == len(k.records)
}

// scrub writes over bytes, their spare room too.
func scrub(p []byte) {
	p = p[:cap(p)]
	copy(p, bytes.Repeat([]byte{0xee}, len(p)))
}
