package wire

import (
	"bytes"
	"encoding/binary"
	"hash/crc32"
	"math/rand"
	"strings"
	"testing"

	"kinfolk/api"
)

// edges are numbers beside those at which one byte more is needed.
func edges() []uint64 {
	l := []uint64{0, 1, 300, 1<<64 - 1, 1<<64 - 2}
	for bit := 7; bit < 64; bit += 7 {
		l = append(l, 1<<bit-1, 1<<bit, 1<<bit+1)
	}
	return l
}

// roomy answers p with spare room of 40 bytes that are all 0xee, and a look at
// the whole of it.
func roomy(p []byte) ([]byte, []byte) {
	whole := append(bytes.Clone(p), bytes.Repeat([]byte{0xee}, 40)...)
	return whole[:len(p)], whole
}

// mustBeNew asks that nothing of p was changed, and that got shares nothing
// with p, its spare room too.
func mustBeNew(t *testing.T, p, whole, got []byte) {
	t.Helper()
	was := append(bytes.Clone(p), bytes.Repeat([]byte{0xee}, len(whole)-len(p))...)
	if !bytes.Equal(whole, was) {
		t.Fatalf("changed: %x", whole)
	}
	got = got[:cap(got)]
	for i := range got {
		got[i] = 0x77
	}
	if !bytes.Equal(whole, was) {
		t.Fatalf("shared: %x", whole)
	}
}

// P6.1: the document's examples and edges.
func TestNumNamed(t *testing.T) {
	named := map[uint64]string{
		0: "\x00", 1: "\x01", 127: "\x7f", 128: "\x80\x01", 300: "\xac\x02",
		16383: "\xff\x7f", 16384: "\x80\x80\x01",
		1<<63 - 1: "\xff\xff\xff\xff\xff\xff\xff\xff\x7f",
		1 << 63:   "\x80\x80\x80\x80\x80\x80\x80\x80\x80\x01",
		1<<64 - 1: "\xff\xff\xff\xff\xff\xff\xff\xff\xff\x01",
	}
	for n, want := range named {
		if got := Num(nil, n); string(got) != want {
			t.Fatalf("%d: %x", n, got)
		}
	}
}

// P6.1: Num adds to any bytes, and leaves them alone.
func TestNum(t *testing.T) {
	all := edges()
	for n := range uint64(40000) {
		all = append(all, n)
	}
	for _, n := range all {
		for _, ahead := range []string{"", "a", "\x80\xff\x00"} {
			p, whole := roomy([]byte(ahead))
			got := Num(p, n)
			if !bytes.Equal(got, binary.AppendUvarint([]byte(ahead), n)) {
				t.Fatalf("%q %d: %x", ahead, n, got)
			}
			mustBeNew(t, p, whole, got)
		}
	}
}

// P6.1: Text tells how many bytes, not how many signs, and any bytes will do.
func TestText(t *testing.T) {
	texts := []string{"", "a", "ab", "\u00e4\u20ac", "\xff\x00", strings.Repeat("x", 127), strings.Repeat("y", 128), strings.Repeat("z", 20000)}
	for _, s := range texts {
		for _, ahead := range []string{"", "abc"} {
			p, whole := roomy([]byte(ahead))
			got := Text(p, s)
			want := append(binary.AppendUvarint([]byte(ahead), uint64(len(s))), s...)
			if !bytes.Equal(got, want) {
				t.Fatalf("%q %q: %x", ahead, s, got)
			}
			mustBeNew(t, p, whole, got)
		}
	}
	if got := Text(nil, "ab"); string(got) != "\x02ab" {
		t.Fatalf("%x", got)
	}
}

// Two answers that begin with the same bytes share nothing.
func TestAnswersApart(t *testing.T) {
	begun := Num(nil, 1<<40)
	one, other := Num(begun, 1), Text(begun, "b")
	if one[len(begun)] != 1 || string(other[len(begun):]) != "\x01b" {
		t.Fatalf("%x %x", one, other)
	}
	one[0]++
	if other[0] == one[0] || begun[0] == one[0] {
		t.Fatal("shared")
	}
}

// P6.1: the sum is the one of IEEE 802.3.
func TestSum(t *testing.T) {
	if got := Sum([]byte("123456789")); got != 0xcbf43926 {
		t.Fatalf("%x", got)
	}
	if Sum(nil) != 0 || Sum([]byte{}) != 0 {
		t.Fatal("empty")
	}
	for both := range 1 << 16 {
		p := []byte{byte(both), byte(both >> 8)}
		if Sum(p) != crc32.ChecksumIEEE(p) || Sum(p[:1]) != crc32.ChecksumIEEE(p[:1]) {
			t.Fatalf("%x", p)
		}
	}
	rnd := rand.New(rand.NewSource(1))
	for range 200 {
		p := make([]byte, rnd.Intn(3000))
		rnd.Read(p)
		p, whole := roomy(p)
		was := bytes.Clone(p)
		if Sum(p) != crc32.ChecksumIEEE(p) || !bytes.Equal(p, was) {
			t.Fatalf("%x", p)
		}
		mustBeNew(t, p, whole, nil)
	}
}

// framed answers a frame with this size and the right sum, whatever size is.
func framed(size uint32, p []byte) []byte {
	f := binary.LittleEndian.AppendUint32(nil, size)
	sum := crc32.ChecksumIEEE(append(bytes.Clone(f), p...))
	return append(binary.LittleEndian.AppendUint32(f, sum), p...)
}

func samples() [][]byte {
	l := [][]byte{nil, {0}, {0xff}, []byte("ab"), bytes.Repeat([]byte{9}, 255), bytes.Repeat([]byte{8}, 256), bytes.Repeat([]byte{7}, 70000)}
	return append(l, bytes.Repeat([]byte{6}, api.MaxFrame))
}

// P6.2: a frame is laid as told, and opened again, with or without bytes
// behind it.
func TestFrame(t *testing.T) {
	for _, own := range samples() {
		p, whole := roomy(own)
		f := Frame(p)
		if !bytes.Equal(f, framed(uint32(len(own)), own)) {
			t.Fatalf("%d: %x", len(own), f[:8])
		}
		frame := bytes.Clone(f)
		mustBeNew(t, p, whole, f)
		for _, behind := range []string{"", "a", "\x01\x00\x00\x00\x00\x00\x00\x00\x00"} {
			held, all := roomy(append(bytes.Clone(frame), behind...))
			got, n, err := Open(held)
			if err != api.OK || n != len(own)+8 || !bytes.Equal(got, own) {
				t.Fatal(len(own), n, err)
			}
			mustBeNew(t, held, all, got)
		}
	}
}

// P6.2: a frame may have more than Open takes.
func TestFrameTooLong(t *testing.T) {
	own := make([]byte, api.MaxFrame+1)
	f := Frame(own)
	if !bytes.Equal(f, framed(api.MaxFrame+1, own)) {
		t.Fatalf("%x", f[:8])
	}
	mustRefuse(t, f, api.ErrLong)
}

func mustRefuse(t *testing.T, p []byte, want api.Errno) {
	t.Helper()
	if got, n, err := Open(p); err != want || n != 0 || len(got) != 0 {
		t.Fatalf("%d bytes: %d %d %d, wanted %d", len(p), len(got), n, err, want)
	}
}

// P6.2: a frame that is cut anywhere isn't all there.
func TestOpenCutShort(t *testing.T) {
	f := Frame([]byte("some bytes"))
	for cut := range len(f) {
		mustRefuse(t, f[:cut], api.ErrForm)
	}
	mustRefuse(t, nil, api.ErrForm)
	// The most that may be said, and one byte less.
	mustRefuse(t, Frame(make([]byte, api.MaxFrame))[:api.MaxFrame+7], api.ErrForm)
}

// P6.2: of what says too much it is told ahead of its bytes' not being there,
// but not ahead of the eight that say it.
func TestOpenLong(t *testing.T) {
	for _, size := range []uint32{api.MaxFrame + 1, api.MaxFrame << 1, 1 << 31, 1<<31 - 1, 1<<32 - 1} {
		for _, n := range []int{0, 1, 100} {
			mustRefuse(t, framed(size, make([]byte, n)), api.ErrLong)
		}
		mustRefuse(t, framed(size, nil)[:7], api.ErrForm)
	}
	mustRefuse(t, []byte{0, 0, 16, 0, 0, 0, 0, 0}, api.ErrForm)
	mustRefuse(t, []byte{1, 0, 16, 0, 0, 0, 0, 0}, api.ErrLong)
}

// P6.2: whichever bit is turned, it is seen.
func TestOpenTurned(t *testing.T) {
	own := []byte("some bytes")
	f := Frame(own)
	for bit := range len(f) * 8 {
		p := append(bytes.Clone(f), make([]byte, 3000)...)
		p[bit/8] ^= 1 << (bit % 8)
		want := api.ErrSum
		if size := binary.LittleEndian.Uint32(p); size > api.MaxFrame {
			want = api.ErrLong
		} else if int(size) > len(p)-8 {
			want = api.ErrForm
		}
		mustRefuse(t, p, want)
	}
	// The sum of the bytes alone isn't it.
	p := append([]byte{2, 0, 0, 0}, binary.LittleEndian.AppendUint32(nil, Sum([]byte("ab")))...)
	mustRefuse(t, append(p, "ab"...), api.ErrSum)
}
