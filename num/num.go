// Package num is layer 1: numbers and texts as bytes.
package num

import (
	"bytes"
	"errors"
	"strconv"

	"estreat/api"
)

const (
	maxVar = 10 // bytes of the longest short number
	maxFix = 8  // bytes of the longest fixed number
)

// PutVar, like the other Puts, shares no memory with b, so it copies b at each
// call: whoever puts many numbers appends each PutVar(nil, v) to bytes of his
// own.
func PutVar(b []byte, v uint64) []byte {
	out := copied(b, maxVar)
	for ; v > 0x7f; v >>= 7 {
		out = append(out, byte(v)|0x80)
	}
	return append(out, byte(v))
}

// PutFix has no error to tell, so it takes the nearest size that may be.
func PutFix(b []byte, v uint64, size int) []byte {
	size = min(max(size, 0), maxFix)
	var p [maxFix]byte
	switch size {
	case 8:
		p[7] = byte(v >> 56)
		fallthrough
	case 7:
		p[6] = byte(v >> 48)
		fallthrough
	case 6:
		p[5] = byte(v >> 40)
		fallthrough
	case 5:
		p[4] = byte(v >> 32)
		fallthrough
	case 4:
		p[3] = byte(v >> 24)
		fallthrough
	case 3:
		p[2] = byte(v >> 16)
		fallthrough
	case 2:
		p[1] = byte(v >> 8)
		fallthrough
	case 1:
		p[0] = byte(v)
	}
	return append(copied(b, size), p[:size]...)
}

func PutBlob(b, p []byte) []byte {
	length := PutVar(nil, uint64(len(p)))
	out := append(copied(b, len(length)+len(p)), length...)
	return append(out, p...)
}

// copied is b in new memory, with room for more, so that what is put behind it
// isn't written into memory that was handed in.
func copied(b []byte, more int) []byte {
	return append(make([]byte, 0, len(b)+more), b...)
}

// Zig lays numbers with a sign so that those near 0 stay small: 0, -1, 1, -2 ..
func Zig(n int64) uint64 {
	return uint64(n)<<1 ^ uint64(n>>63)
}

func Zag(v uint64) int64 {
	return int64(v>>1) ^ -int64(v&1)
}

// fault is an error and the place where what could not be taken begins.
type fault struct {
	at    int
	cause error
}

func (f *fault) Error() string {
	return "at " + strconv.Itoa(f.at) + ": " + f.cause.Error()
}

func (f *fault) Unwrap() error { return f.cause }

// Reader takes numbers and texts from bytes, one behind the other. Behind its
// first error it stays where it is and takes nothing any more.
type Reader struct {
	b   []byte
	at  int
	err error
}

// NewReader copies b: what is written into b later isn't read.
func NewReader(b []byte) *Reader {
	return &Reader{b: bytes.Clone(b)}
}

func (r *Reader) Var() uint64 {
	if r.stopped() {
		return 0
	}
	v, n, err := readVar(r.b[r.at:])
	if err != nil {
		r.stop(err)
		return 0
	}
	r.at += n
	return v
}

func (r *Reader) Fix(size int) uint64 {
	if r.stopped() {
		return 0
	}
	if size < 0 || size > maxFix {
		r.stop(api.ErrArg)
		return 0
	}
	if size > r.Left() {
		r.stop(api.ErrShort)
		return 0
	}
	v := fixed(r.b[r.at : r.at+size])
	r.at += size
	return v
}

func (r *Reader) Blob(most int) []byte {
	if r.stopped() {
		return nil
	}
	p, n, err := readBlob(r.b[r.at:], most)
	if err != nil {
		r.stop(err)
		return nil
	}
	r.at += n
	return bytes.Clone(p)
}

func (r *Reader) Take(n int) []byte {
	if r.stopped() {
		return nil
	}
	if n < 0 {
		r.stop(api.ErrArg)
		return nil
	}
	if n > r.Left() {
		r.stop(api.ErrShort)
		return nil
	}
	p := bytes.Clone(r.b[r.at : r.at+n])
	r.at += n
	return p
}

// Fail lets whoever reads a larger thing tell, with its place, what is wrong
// with it; an error that came earlier stays.
func (r *Reader) Fail(e api.Errno) {
	if !r.stopped() && e != api.OK {
		r.stop(e)
	}
}

func (r *Reader) At() int {
	if r == nil {
		return 0
	}
	return r.at
}

func (r *Reader) Left() int {
	if r == nil {
		return 0
	}
	return len(r.b) - r.at
}

func (r *Reader) Err() (e api.Errno, at int) {
	if r == nil {
		return api.ErrArg, 0
	}
	var f *fault
	if errors.As(r.err, &f) && errors.As(f, &e) {
		return e, f.at
	}
	return api.OK, 0
}

// End doesn't keep its ErrLong, so a reader that is asked too early goes on.
func (r *Reader) End() (e api.Errno, at int) {
	if e, at = r.Err(); e == api.OK && r.Left() > 0 {
		return api.ErrLong, r.at
	}
	return e, at
}

func (r *Reader) stopped() bool {
	return r == nil || r.err != nil
}

func (r *Reader) stop(cause error) {
	r.err = &fault{at: r.at, cause: cause}
}

// readVar takes the number byte by byte, since one that can't be is told even
// where the bytes end right behind it.
func readVar(b []byte) (v uint64, n int, err error) {
	for i, c := range b {
		low := uint64(c & 0x7f)
		switch {
		case i > 0 && c == 0, i == maxVar-1 && low > 1, i == maxVar:
			return 0, 0, api.ErrForm
		}
		v |= low << (7 * i)
		if c < 0x80 {
			return v, i + 1, nil
		}
	}
	return 0, 0, api.ErrShort
}

func readBlob(b []byte, most int) (p []byte, n int, err error) {
	size, head, err := readVar(b)
	if err != nil {
		return nil, 0, err
	}
	if most < 0 || size > uint64(most) {
		return nil, 0, api.ErrLimit
	}
	if size > uint64(len(b)-head) {
		return nil, 0, api.ErrShort
	}
	n = head + int(size)
	return b[head:n], n, nil
}

func fixed(p []byte) (v uint64) {
	switch len(p) {
	case 8:
		v |= uint64(p[7]) << 56
		fallthrough
	case 7:
		v |= uint64(p[6]) << 48
		fallthrough
	case 6:
		v |= uint64(p[5]) << 40
		fallthrough
	case 5:
		v |= uint64(p[4]) << 32
		fallthrough
	case 4:
		v |= uint64(p[3]) << 24
		fallthrough
	case 3:
		v |= uint64(p[2]) << 16
		fallthrough
	case 2:
		v |= uint64(p[1]) << 8
		fallthrough
	case 1:
		v |= uint64(p[0])
	}
	return v
}
