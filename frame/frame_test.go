package frame_test

import (
	"bytes"
	"encoding/binary"
	"hash/crc32"
	"math"
	"testing"

	"estreat/api"
	"estreat/frame"
)

// sizes are lengths of parts: none, few, and those about a further byte of the
// length.
var sizes = []int{0, 1, 2, 3, 4, 7, 8, 9, 15, 16, 64, 127, 128, 255, 256, 257, 1000}

// above are lengths that no part may have, with and without bits that a number
// with a sign would take for it.
var above = []uint32{api.MaxFrame + 1, api.MaxFrame + 255, api.MaxFrame << 1, api.MaxFrame<<1 | 1, 1 << 31, 1<<31 | 5, math.MaxUint32 - 7, math.MaxUint32}

// some makes n bytes by a short rule.
func some(n int) []byte {
	b := make([]byte, n)
	v := uint64(n) + 88172645463325252
	for i := range b {
		v ^= v << 13
		v ^= v >> 7
		v ^= v << 17
		b[i] = byte(v >> 24)
	}
	return b
}

// joined is parts of bytes one behind the other, in memory of its own.
func joined(parts ...[]byte) []byte {
	return bytes.Join(parts, nil)
}

func word(v uint32) []byte {
	return binary.LittleEndian.AppendUint32(nil, v)
}

// framed is the frame of a part by the words of the document.
func framed(p []byte) []byte {
	length := word(uint32(len(p)))
	return joined(length, word(crc32.ChecksumIEEE(joined(length, p))), p)
}

// turned is b with one bit turned.
func turned(b []byte, bit int) []byte {
	out := bytes.Clone(b)
	out[bit/8] ^= 1 << (bit % 8)
	return out
}

// got is what Get should answer, by the words of the document.
func got(b []byte) (p []byte, n int, e api.Errno) {
	if len(b) < 4 {
		return nil, 0, api.ErrShort
	}
	size := uint64(binary.LittleEndian.Uint32(b))
	if size > 1<<24 {
		return nil, 0, api.ErrLimit
	}
	if uint64(len(b)) < 8+size {
		return nil, 0, api.ErrShort
	}
	n = int(8 + size)
	if crc32.ChecksumIEEE(joined(b[:4], b[8:n])) != binary.LittleEndian.Uint32(b[4:]) {
		return nil, 0, api.ErrSum
	}
	return b[8:n], n, api.OK
}

func wantPut(t *testing.T, p []byte) {
	t.Helper()
	if b, e := frame.Put(p); e != api.OK || !bytes.Equal(b, framed(p)) {
		t.Fatalf("%d bytes: %.20x, error %d; not %.20x", len(p), b, e, framed(p))
	}
}

func wantGet(t *testing.T, b, p []byte) {
	t.Helper()
	if q, n, e := frame.Get(b); e != api.OK || n != 8+len(p) || !bytes.Equal(q, p) {
		t.Fatalf("%.20x (%d bytes): %.20x, %d, error %d; not %.20x, %d", b, len(b), q, n, e, p, 8+len(p))
	}
}

// wantRefused looks for an error of Get, and that All takes nothing either.
func wantRefused(t *testing.T, b []byte, want api.Errno) {
	t.Helper()
	if p, n, e := frame.Get(b); e != want || n != 0 || len(p) != 0 {
		t.Fatalf("%.20x (%d bytes): %.20x, %d, error %d; not error %d", b, len(b), p, n, e, want)
	}
	wantAll(t, b, 0)
}

// wantAll looks for parts, and how many bytes their frames have.
func wantAll(t *testing.T, b []byte, whole int, parts ...[]byte) {
	t.Helper()
	l, n := frame.All(b)
	if n != whole || len(l) != len(parts) {
		t.Fatalf("%.40x (%d bytes): %d parts, %d bytes; not %d, %d", b, len(b), len(l), n, len(parts), whole)
	}
	for i, p := range parts {
		if !bytes.Equal(l[i], p) {
			t.Fatalf("part %d: %.20x, not %.20x", i, l[i], p)
		}
	}
}

// P4.1

func TestPutOfKnownParts(t *testing.T) {
	for text, want := range map[string][]byte{
		"":                 {0, 0, 0, 0, 0x1c, 0xdf, 0x44, 0x21},
		"\x00":             {1, 0, 0, 0, 0xad, 0xde, 0x42, 0xfb, 0},
		"\xff\xff\xff\xff": {4, 0, 0, 0, 0x70, 0xf1, 0xd3, 0x3f, 0xff, 0xff, 0xff, 0xff},
		"abc":              {3, 0, 0, 0, 0x33, 0x5d, 0xe1, 0x66, 'a', 'b', 'c'},
		"123456789":        {9, 0, 0, 0, 0xe2, 0x61, 0x1c, 0xa5, '1', '2', '3', '4', '5', '6', '7', '8', '9'},
	} {
		if b, e := frame.Put([]byte(text)); e != api.OK || !bytes.Equal(b, want) {
			t.Errorf("%q: %x, error %d; not %x", text, b, e, want)
		}
		wantGet(t, want, []byte(text))
	}
}

func TestNoBytes(t *testing.T) {
	for _, p := range [][]byte{nil, {}} {
		b, e := frame.Put(p)
		if e != api.OK || len(b) != 8 {
			t.Fatalf("%x, error %d", b, e)
		}
		wantGet(t, b, nil)
		wantGet(t, joined(b, []byte{0}), nil)
		wantRefused(t, p, api.ErrShort)
	}
}

func TestEachLength(t *testing.T) {
	for n := range 600 {
		p := some(n)
		wantPut(t, p)
		wantGet(t, framed(p), p)
		wantGet(t, joined(framed(p), some(9)), p)
		wantAll(t, framed(p), 8+n, p)
	}
	for _, n := range []int{1<<16 - 1, 1 << 16, 1<<16 + 1} {
		wantPut(t, some(n))
		wantGet(t, framed(some(n)), some(n))
	}
}

func TestLongestParts(t *testing.T) {
	for _, n := range []int{api.MaxFrame - 1, api.MaxFrame} {
		p := some(n)
		b := framed(p)
		wantPut(t, p)
		wantGet(t, b, p)
		wantGet(t, joined(b, []byte{7}), p)
		wantRefused(t, b[:len(b)-1], api.ErrShort)
		wantRefused(t, turned(b, 8*len(b)-1), api.ErrSum)
		wantAll(t, joined(framed([]byte{1}), b, framed([]byte{2}), []byte{3}), len(b)+18, []byte{1}, p, []byte{2})
	}
}

func TestPutOfTooLongParts(t *testing.T) {
	for _, n := range []int{api.MaxFrame + 1, api.MaxFrame + 256, 2 * api.MaxFrame} {
		if b, e := frame.Put(make([]byte, n)); e != api.ErrLimit || len(b) != 0 {
			t.Fatalf("%d bytes: %d bytes, error %d", n, len(b), e)
		}
	}
}

// A frame that is too long is refused, even where all else of it is right.
func TestGetOfTooLongParts(t *testing.T) {
	wantRefused(t, framed(some(api.MaxFrame+1)), api.ErrLimit)
	wantRefused(t, turned(framed(some(api.MaxFrame+1)), 40), api.ErrLimit)
	wantRefused(t, joined(framed(some(2*api.MaxFrame)), framed(nil)), api.ErrLimit)
}

func TestBytesThatEndWithinAFrame(t *testing.T) {
	for _, size := range sizes {
		b := framed(some(size))
		for n := range b {
			wantRefused(t, b[:n], api.ErrShort)
		}
	}
}

// Of a length above the limit that is told as soon as the length is there.
func TestTooGreatLengthAheadOfTheEnd(t *testing.T) {
	for _, size := range above {
		for n := range 4 {
			wantRefused(t, word(size)[:n], api.ErrShort)
		}
		for n := range 20 {
			wantRefused(t, joined(word(size), some(n)), api.ErrLimit)
			wantRefused(t, joined(word(size), make([]byte, n)), api.ErrLimit)
		}
	}
}

func TestLengthAtTheLimitThatEndsEarly(t *testing.T) {
	for _, size := range []uint32{api.MaxFrame, api.MaxFrame - 1, 1 << 16, 5} {
		for n := range 9 {
			wantRefused(t, joined(word(size), some(n)), api.ErrShort)
		}
	}
}

// That bytes end early is told ahead of a sum that is another.
func TestEndAheadOfTheSum(t *testing.T) {
	for _, size := range sizes {
		b := framed(some(size))
		wrong := turned(b, 37)
		for n := range b {
			wantRefused(t, wrong[:n], api.ErrShort)
		}
		wantRefused(t, wrong, api.ErrSum)
	}
}

func TestEachBitTurned(t *testing.T) {
	for _, size := range sizes {
		b := framed(some(size))
		for _, behind := range [][]byte{nil, some(5), make([]byte, 300)} {
			for bit := range 8 * len(b) {
				c := joined(turned(b, bit), behind)
				_, _, want := got(c)
				if want == api.OK || bit >= 32 && want != api.ErrSum {
					t.Fatalf("the reckoning: bit %d of %d bytes: %d", bit, len(b), want)
				}
				wantRefused(t, c, want)
			}
		}
	}
}

// The sum is of the length, too: a part that is cut, or goes on, with its
// length told as it then is, and the sum left, is refused.
func TestSumOfTheLength(t *testing.T) {
	zeros := framed(make([]byte, 20))
	for n := range 40 {
		c := joined(word(uint32(n)), zeros[4:8], make([]byte, n))
		if n == 20 {
			wantGet(t, c, make([]byte, 20))
		} else {
			wantRefused(t, c, api.ErrSum)
		}
	}
	wantRefused(t, joined(word(3), word(crc32.ChecksumIEEE([]byte("abc"))), []byte("abc")), api.ErrSum)
	wantRefused(t, joined(word(3), word(crc32.ChecksumIEEE([]byte("abc\x03\x00\x00\x00"))), []byte("abc")), api.ErrSum)
	wantRefused(t, make([]byte, 8), api.ErrSum)
	wantRefused(t, make([]byte, 100), api.ErrSum)
	wantRefused(t, bytes.Repeat([]byte{0xff}, 100), api.ErrLimit)
}

// P4.2

// rows are parts whose frames stand one behind the other.
func rows() [][][]byte {
	return [][][]byte{
		{},
		{{}},
		{{5}},
		{{}, {}, {}},
		{{1}, {}, {2, 3}},
		{some(1), some(2), some(3), some(300), some(70000)},
		{some(1000), {}, some(1000)},
		{framed(some(3)), framed(nil), framed(framed(some(20)))},
	}
}

func frames(parts [][]byte) (b []byte) {
	for _, p := range parts {
		b = append(b, framed(p)...)
	}
	return b
}

func TestAllWithNothingBehind(t *testing.T) {
	for _, parts := range rows() {
		b := frames(parts)
		wantAll(t, b, len(b), parts...)
	}
	wantAll(t, nil, 0)
	wantAll(t, []byte{}, 0)
}

func TestAllWithLessThanAFrameBehind(t *testing.T) {
	for _, parts := range rows() {
		b := frames(parts)
		for _, size := range []int{0, 1, 8, 40} {
			next := framed(some(size))
			for n := range next {
				wantAll(t, joined(b, next[:n]), len(b), parts...)
			}
			wantAll(t, joined(b, next), len(b)+len(next), append(parts, some(size))...)
		}
	}
}

// refusals are bytes that no frame begins, by the error that tells why.
func refusals() map[api.Errno][][]byte {
	return map[api.Errno][][]byte{
		api.ErrShort: {nil, {0}, {0, 0, 0}, {0, 0, 0, 0, 0x1c, 0xdf, 0x44}, word(api.MaxFrame), joined(word(1), some(4)), bytes.Repeat([]byte{1, 1, 1, 0}, 30)},
		api.ErrLimit: {word(api.MaxFrame + 1), joined(word(math.MaxUint32), some(90)), bytes.Repeat([]byte{1}, 30)},
		api.ErrSum:   {make([]byte, 8), make([]byte, 30), turned(framed(nil), 63), turned(framed(some(9)), 135), joined(word(2), word(0), some(2))},
	}
}

func TestAllWithRefusedBytesBehind(t *testing.T) {
	for e, list := range refusals() {
		for _, bad := range list {
			wantRefused(t, bad, e)
			for _, parts := range rows() {
				b := frames(parts)
				wantAll(t, joined(b, bad), len(b), parts...)
			}
		}
	}
}

// Behind the first frame that is refused nothing is taken, though further ones
// that are right stand there.
func TestAllStopsAtTheFirstRefused(t *testing.T) {
	right := framed(some(6))
	for bit := range 8 * len(right) {
		bad := turned(right, bit)
		wantAll(t, joined(bad, right, right), 0)
		wantAll(t, joined(right, bad, right), len(right), some(6))
		wantAll(t, joined(right, right, bad, right), 2*len(right), some(6), some(6))
	}
	wantAll(t, joined([]byte{9}, right), 0)
	wantAll(t, joined(right, word(math.MaxUint32), right), len(right), some(6))
}

func TestAllOfManyFrames(t *testing.T) {
	for _, size := range []int{0, 1, 5} {
		parts := make([][]byte, 5000)
		for i := range parts {
			parts[i] = bytes.Repeat([]byte{byte(i)}, size)
		}
		b := frames(parts)
		wantAll(t, b, len(b), parts...)
		wantAll(t, b[:len(b)-1], len(b)-8-size, parts[:len(parts)-1]...)
	}
}

// P4.3

func TestWhatIsPutIsReadAsItWas(t *testing.T) {
	v := uint64(1)
	for range 300 {
		var b []byte
		var parts [][]byte
		v = v*6364136223846793005 + 1442695040888963407
		for range v >> 61 {
			v = v*6364136223846793005 + 1442695040888963407
			p := some(int(v >> 54))
			f, e := frame.Put(p)
			if e != api.OK {
				t.Fatal(e)
			}
			b, parts = append(b, f...), append(parts, p)
		}
		wantAll(t, b, len(b), parts...)
		behind := some(int(v >> 58))
		if _, _, e := got(behind); e == api.OK {
			t.Fatalf("%x is a frame", behind)
		}
		wantAll(t, joined(b, behind), len(b), parts...)
	}
}

// TestAnyBytes holds Get and All against the words of the document, at bytes of
// which many are nearly frames.
func TestAnyBytes(t *testing.T) {
	v := uint64(7)
	next := func(n int) int {
		v = v*6364136223846793005 + 1442695040888963407
		return int(v>>33) % n
	}
	for range 20000 {
		var b []byte
		for range next(4) {
			f := framed(some(next(20)))
			switch next(6) {
			case 0:
				f = turned(f, next(8*len(f)))
			case 1:
				f = f[:next(len(f))]
			case 2:
				f = joined(f[:4], some(next(9)))
			}
			b = append(b, f...)
		}
		whole := 0
		var parts [][]byte
		for {
			p, n, want := got(b[whole:])
			if q, m, e := frame.Get(b[whole:]); e != want || m != n || !bytes.Equal(p, q) {
				t.Fatalf("%x: %x, %d, error %d; not %x, %d, error %d", b[whole:], q, m, e, p, n, want)
			}
			if want != api.OK {
				break
			}
			parts, whole = append(parts, p), whole+n
		}
		wantAll(t, b, whole, parts...)
	}
}

// R4, R7

func TestWhatIsHandedInStays(t *testing.T) {
	room := joined(framed(some(5)), framed(some(6)), framed(some(7)))
	was := bytes.Clone(room)
	b := room[:27]
	one, _ := frame.Put(b)
	p, _, _ := frame.Get(b)
	l, _ := frame.All(b)
	for _, answer := range [][]byte{one, p, l[0], l[1]} {
		clear(answer)
		_ = append(answer, 99, 99, 99)
	}
	if !bytes.Equal(room, was) {
		t.Fatal("what was handed in was written over")
	}
}

func TestWhatIsAnsweredIsItsOwn(t *testing.T) {
	parts := [][]byte{some(5), {}, some(6), {}, some(7)}
	b := frames(parts)
	l, _ := frame.All(b)
	m, _ := frame.All(b)
	p, _, _ := frame.Get(b)
	one, _ := frame.Put(some(5))
	two, _ := frame.Put(some(5))
	clear(b)
	for i := range l {
		_ = append(l[i], 99, 99, 99)
	}
	for i := range l {
		if !bytes.Equal(l[i], parts[i]) {
			t.Fatalf("part %d is written over: %x", i, l[i])
		}
		clear(l[i])
	}
	clear(two)
	for i := range m {
		if !bytes.Equal(m[i], parts[i]) {
			t.Fatalf("part %d hangs on another answer: %x", i, m[i])
		}
	}
	if !bytes.Equal(p, parts[0]) || !bytes.Equal(one, framed(some(5))) {
		t.Fatal("an answer hangs on another one")
	}
}

// What lies behind a list's length doesn't count, though the frame ends there.
func TestWhatLiesBehindTheLengthIsNotRead(t *testing.T) {
	b := joined(framed(some(5)), framed(some(6)))
	for n := range 13 {
		wantRefused(t, b[:n], api.ErrShort)
	}
	for n := 13; n < len(b); n++ {
		wantAll(t, b[:n], 13, some(5))
	}
	wantPut(t, b[:4])
}

func TestSameAnswerEachTime(t *testing.T) {
	p := some(50)
	for range 3 {
		wantPut(t, p)
		wantGet(t, framed(p), p)
		wantRefused(t, turned(framed(p), 70), api.ErrSum)
	}
}
