package wire

import (
	"slices"

	"kinfolk/api"
)

// In reads bytes from their beginning on.
type In struct {
	rest []byte
	err  api.Errno
}

// Of answers an In of p.
func Of(p []byte) *In { return &In{rest: slices.Clone(p)} }

// Byte reads a byte.
func (in *In) Byte() byte {
	if in.Err() != api.OK {
		return 0
	}
	if len(in.rest) == 0 {
		in.err = api.ErrForm
		return 0
	}
	b := in.rest[0]
	in.rest = in.rest[1:]
	return b
}

// Num reads a number.
func (in *In) Num() uint64 {
	if in.Err() != api.OK {
		return 0
	}
	n, size := number(in.rest)
	if size == 0 {
		in.err = api.ErrForm
		return 0
	}
	in.rest = in.rest[size:]
	return n
}

// number answers the number that p begins with, and how many bytes it has: 0
// if there is none.
func number(p []byte) (uint64, int) {
	n := uint64(0)
	for i := range min(len(p), mostNum) {
		b := p[i]
		n |= uint64(b&^more) << (i * perByte)
		if b >= more {
			continue
		}
		longer := i > 0 && b == 0
		greater := i == mostNum-1 && b > tenth
		if longer || greater {
			return 0, 0
		}
		return n, i + 1
	}
	return 0, 0
}

// Text reads a text of at most most bytes.
func (in *In) Text(most int) string {
	if in.Err() != api.OK {
		return ""
	}
	n, size := number(in.rest)
	body := in.rest[size:]
	switch {
	case size == 0:
		in.err = api.ErrForm
	case most < 0 || n > uint64(most):
		in.err = api.ErrLong
	case n > uint64(len(body)):
		in.err = api.ErrForm
	default:
		in.rest = body[n:]
		return string(body[:n])
	}
	return ""
}

// Left answers how many bytes are left.
func (in *In) Left() int {
	if in == nil {
		return 0
	}
	return len(in.rest)
}

// Fail makes e the error, if there was none.
func (in *In) Fail(e api.Errno) {
	if in.Err() == api.OK {
		in.err = e
	}
}

// Err answers the error, once there was one.
func (in *In) Err() api.Errno {
	if in == nil {
		return api.ErrNone
	}
	return in.err
}

// End asks that nothing is left.
func (in *In) End() api.Errno {
	if in.Left() > 0 {
		in.Fail(api.ErrForm)
	}
	return in.Err()
}
