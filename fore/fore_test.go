package fore_test

import (
	"bytes"
	"encoding/binary"
	"math"
	"math/bits"
	"slices"
	"testing"

	"estreat/api"
	"estreat/fore"
)

const least, most = math.MinInt64, math.MaxInt64

// edges are the numbers at which something changes: 0, the least and the
// greatest one, and those around each power of two, on both sides of 0.
func edges() []int64 {
	l := []int64{0, -1, 1, 300, -300, least, least + 1, most, most - 1}
	for i := range 63 {
		p := int64(1) << i
		l = append(l, p-2, p-1, p, p+1, -p-2, -p-1, -p, -p+1)
	}
	return l
}

// often is n times v.
func often(v int64, n int) []int64 {
	return slices.Repeat([]int64{v}, n)
}

// rising is n numbers from a first one on, each a step above the one ahead;
// they go round where they run over.
func rising(first, step int64, n int) []int64 {
	l := make([]int64, n)
	for i := range l {
		l[i] = first + step*int64(i)
	}
	return l
}

// chance is a number that looks like any other, the same at each call.
func chance(i int) uint64 {
	v := uint64(i+1) * 6364136223846793005
	v ^= v >> 29
	v *= 2862933555777941757
	return v ^ v>>32
}

// all is the greatest number without a sign of so many bits.
func all(width int) uint64 {
	return 1<<width - 1
}

// room is how much the greatest number is above v.
func room(v int64) uint64 {
	return uint64(most) - uint64(v)
}

// highest is the greatest number that, as the least one, leaves room for any
// difference of a width.
func highest(width int) int64 {
	return int64(uint64(most) - all(width))
}

// some is n differences that go into a width, one of which needs all of it, and
// one of which is 0 (of one alone: it is 0).
func some(n, width int) []uint64 {
	l := make([]uint64, n)
	for i := range l {
		l[i] = chance(i*67+width) & all(width)
	}
	if width > 0 && n > 1 {
		l[n*2/3] |= 1 << (width - 1)
	}
	if n > 0 {
		l[n/3] = 0
	}
	return l
}

// mixed is n numbers, up and down, whose differences need that width.
func mixed(n, width int) []int64 {
	return plus(min(int64(n)-70, highest(width)), some(n, width))
}

// plus is the numbers that are above a first one by these differences.
func plus(first int64, above []uint64) []int64 {
	l := make([]int64, len(above))
	for i, d := range above {
		l[i] = int64(uint64(first) + d)
	}
	return l
}

// full is lists of n numbers of all kinds.
func full(n int) [][]int64 {
	l := [][]int64{make([]int64, n), often(-1, n), often(least, n), often(most, n)}
	l = append(l, rising(10, 1, n), rising(-5, -1, n), rising(most-3, 1, n), rising(7, 1<<40+9, n), rising(0, least, n))
	l = append(l, rising(most, -1, n), rising(least, 1, n), rising(300, -7, n))
	turned := make([]int64, n)
	for i := range turned {
		turned[i] = []int64{least, most}[i%2]
	}
	l = append(l, turned)
	for _, width := range []int{1, 2, 3, 7, 8, 9, 31, 32, 33, 62, 63, 64} {
		l = append(l, mixed(n, width))
	}
	return l
}

// widthOf is the least width that all numbers of l go into.
func widthOf(l []uint64) int {
	width := 0
	for _, v := range l {
		for width < 64 && v>>width > 0 {
			width++
		}
	}
	return width
}

// packed is numbers packed in a width, bit by bit.
func packed(l []uint64, width int) []byte {
	b := make([]byte, (len(l)*width+7)/8)
	at := 0
	for _, v := range l {
		for k := range width {
			b[at/8] |= byte(v>>k&1) << (at % 8)
			at++
		}
	}
	return b
}

// lowest is the least number of l, which has some.
func lowest(l []int64) int64 {
	return slices.Sorted(slices.Values(l))[0]
}

// aboveOf is how much each number of l is above the least one, of numbers on two
// sides of 0 by what each is off from it, so that nothing goes round.
func aboveOf(l []int64) []uint64 {
	var above []uint64
	first := lowest(l)
	for _, v := range l {
		if first < 0 && v >= 0 {
			above = append(above, uint64(-(first+1))+1+uint64(v))
		} else {
			above = append(above, uint64(v-first))
		}
	}
	return above
}

// laid is the parts of a form, whether they may be together or not.
func laid(first int64, width int, behind []byte) []byte {
	return join(binary.AppendVarint(nil, first), []byte{byte(width)}, behind)
}

// at is the form of a least number and these differences, whether they may be
// together or not, in the width that they need.
func at(first int64, above ...uint64) []byte {
	width := widthOf(above)
	return laid(first, width, packed(above, width))
}

// wide is the form of l, but with that width, whatever the least one is.
func wide(l []int64, width int) []byte {
	return laid(lowest(l), width, packed(aboveOf(l), width))
}

// form is the form by the least one of l by the words of the document.
func form(l []int64) []byte {
	if len(l) == 0 {
		return nil
	}
	return wide(l, widthOf(aboveOf(l)))
}

// read is what Get answers by the words of the document.
func read(b []byte, n int) ([]int64, api.Errno) {
	switch {
	case n < 0 || n > api.MaxRows:
		return nil, api.ErrArg
	case n == 0 && len(b) > 0:
		return nil, api.ErrLong
	case n == 0:
		return nil, api.OK
	}
	size, e := short(b)
	if e != api.OK {
		return nil, e
	}
	first, _ := binary.Varint(b[:size])
	above, e := behind(b[size:], n)
	if e != api.OK {
		return nil, e
	}
	const turn = 1 << 63 // so that they are ordered without a sign
	var l []int64
	none := true
	for _, d := range above {
		none = none && d > 0
		v, over := bits.Add64(uint64(first)^turn, d, 0)
		if over > 0 {
			return nil, api.ErrForm
		}
		l = append(l, int64(v^turn))
	}
	if none {
		return nil, api.ErrForm
	}
	return l, api.OK
}

// short is how many bytes the short number has that b begins with.
func short(b []byte) (int, api.Errno) {
	for i, c := range b {
		if i > 0 && c == 0 || i == 9 && c%128 > 1 || i == 10 {
			return 0, api.ErrForm
		}
		if c < 128 {
			return i + 1, api.OK
		}
	}
	return 0, api.ErrShort
}

// behind is the n differences of b, a width and what is packed in it.
func behind(b []byte, n int) ([]uint64, api.Errno) {
	if len(b) == 0 {
		return nil, api.ErrShort
	}
	width := int(b[0])
	b = b[1:]
	if width > 64 {
		return nil, api.ErrRange
	}
	size := (n*width + 7) / 8
	if len(b) < size {
		return nil, api.ErrShort
	}
	if len(b) > size {
		return nil, api.ErrLong
	}
	l := make([]uint64, n)
	for at := range 8 * size {
		bit := uint64(b[at/8] >> (at % 8) & 1)
		if at >= n*width {
			if bit == 1 {
				return nil, api.ErrForm
			}
			continue
		}
		l[at/width] |= bit << (at % width)
	}
	if widthOf(l) != width {
		return nil, api.ErrForm
	}
	return l, api.OK
}

// join is all parts, one behind the other, in new memory.
func join(parts ...[]byte) []byte {
	return bytes.Join(parts, nil)
}

// wantPut looks whether want is what Put answers.
func wantPut(t *testing.T, l []int64, want []byte) {
	t.Helper()
	b, e := fore.Put(l)
	if e != api.OK || !bytes.Equal(b, want) {
		t.Fatalf("%d numbers %.20d: %.40x, error %d, not %.40x", len(l), l, b, e, want)
	}
}

func wantGet(t *testing.T, b []byte, n int, want []int64) {
	t.Helper()
	l, e := fore.Get(b, n)
	if e != api.OK || len(l) != n || !slices.Equal(l, want) {
		t.Fatalf("%d of %.40x: %d numbers %.20d, error %d, not %.20d", n, b, len(l), l, e, want)
	}
}

func wantGetErr(t *testing.T, b []byte, n int, want api.Errno) {
	t.Helper()
	if l, e := fore.Get(b, n); e != want || len(l) != 0 {
		t.Fatalf("%d of %d bytes %.40x: %d numbers %.20d, error %d, not %d", n, len(b), b, len(l), l, e, want)
	}
}

// both looks whether l is put as b and b is read as l.
func both(t *testing.T, l []int64, b []byte) {
	t.Helper()
	wantPut(t, l, b)
	wantGet(t, b, len(l), l)
}

// The document's example.

func TestExample(t *testing.T) {
	both(t, []int64{100, 103, 101}, []byte{0xc8, 0x01, 0x02, 0x1c})
}

// P12.1: Put

func TestNone(t *testing.T) {
	for _, l := range [][]int64{nil, {}, make([]int64, 0, 10), often(1, 3)[:0]} {
		both(t, l, nil)
	}
}

func TestOne(t *testing.T) {
	for _, x := range []struct {
		n int64
		b []byte
	}{
		{0, []byte{0, 0}}, {-1, []byte{1, 0}}, {1, []byte{2, 0}}, {-2, []byte{3, 0}}, {100, []byte{0xc8, 1, 0}},
		{63, []byte{0x7e, 0}}, {-64, []byte{0x7f, 0}}, {64, []byte{0x80, 1, 0}}, {-65, []byte{0x81, 1, 0}}, {300, []byte{0xd8, 4, 0}},
		{most, []byte{0xfe, 255, 255, 255, 255, 255, 255, 255, 255, 1, 0}},
		{least, []byte{0xff, 255, 255, 255, 255, 255, 255, 255, 255, 1, 0}},
	} {
		both(t, []int64{x.n}, x.b)
	}
	for _, v := range edges() {
		both(t, []int64{v}, laid(v, 0, nil))
	}
}

func TestTwo(t *testing.T) {
	for _, x := range []struct {
		l []int64
		b []byte
	}{
		{[]int64{0, 0}, []byte{0, 0}}, {[]int64{5, 5}, []byte{0x0a, 0}}, {[]int64{-1, -1}, []byte{1, 0}}, {[]int64{300, 300}, []byte{0xd8, 4, 0}},
		{[]int64{0, 1}, []byte{0, 1, 2}}, {[]int64{1, 0}, []byte{0, 1, 1}}, {[]int64{0, -1}, []byte{1, 1, 1}}, {[]int64{-1, 0}, []byte{1, 1, 2}},
		{[]int64{5, 3}, []byte{6, 2, 2}}, {[]int64{3, 5}, []byte{6, 2, 8}}, {[]int64{-3, 3}, []byte{5, 3, 0x30}}, {[]int64{3, -3}, []byte{5, 3, 6}},
		{[]int64{0, 255}, []byte{0, 8, 0, 0xff}}, {[]int64{255, 0}, []byte{0, 8, 0xff, 0}}, {[]int64{0, 256}, []byte{0, 9, 0, 0, 2}}, {[]int64{256, 0}, []byte{0, 9, 0, 1, 0}},
		{[]int64{0, most}, []byte{0, 63, 0, 0, 0, 0, 0, 0, 0, 0x80, 255, 255, 255, 255, 255, 255, 255, 0x3f}},
		{[]int64{most, 0}, []byte{0, 63, 255, 255, 255, 255, 255, 255, 255, 0x7f, 0, 0, 0, 0, 0, 0, 0, 0}},
		{[]int64{-1, most}, []byte{1, 64, 0, 0, 0, 0, 0, 0, 0, 0, 0, 0, 0, 0, 0, 0, 0, 0x80}},
		{[]int64{least, -1}, laid(least, 63, []byte{0, 0, 0, 0, 0, 0, 0, 0x80, 255, 255, 255, 255, 255, 255, 255, 0x3f})},
		{[]int64{least, 0}, laid(least, 64, []byte{0, 0, 0, 0, 0, 0, 0, 0, 0, 0, 0, 0, 0, 0, 0, 0x80})},
		{[]int64{most - 1, most}, []byte{0xfc, 255, 255, 255, 255, 255, 255, 255, 255, 1, 1, 2}},
		{[]int64{least + 1, least}, []byte{0xff, 255, 255, 255, 255, 255, 255, 255, 255, 1, 1, 1}},
	} {
		both(t, x.l, x.b)
	}
	l := edges()
	for i, a := range l {
		for _, b := range l[i%5:] {
			both(t, []int64{a, b}, form([]int64{a, b}))
		}
	}
}

// The least and the greatest number there is are apart by all 64 bits.
func TestLeastAndMost(t *testing.T) {
	ones, none := bytes.Repeat([]byte{255}, 8), make([]byte, 8)
	both(t, []int64{least, most}, laid(least, 64, join(none, ones)))
	both(t, []int64{most, least}, laid(least, 64, join(ones, none)))
	both(t, []int64{most, least, most, least}, laid(least, 64, join(ones, none, ones, none)))
	both(t, []int64{least, 0, -1, most}, laid(least, 64, packed([]uint64{0, 1 << 63, 1<<63 - 1, math.MaxUint64}, 64)))
	both(t, []int64{least + 1, most}, laid(least+1, 64, packed([]uint64{0, math.MaxUint64 - 1}, 64)))
	both(t, []int64{most - 1, least}, laid(least, 64, packed([]uint64{math.MaxUint64 - 1, 0}, 64)))
}

// Numbers that are all the same have a width of 0, and nothing behind it.
func TestAllTheSame(t *testing.T) {
	for _, v := range edges() {
		for _, n := range []int{2, 3, 8, 9, 10, 129, 1000} {
			both(t, often(v, n), laid(v, 0, nil))
		}
	}
	for _, v := range []int64{0, 5, least, most} {
		for _, n := range []int{5000, api.MaxRows - 1, api.MaxRows} {
			both(t, often(v, n), laid(v, 0, nil))
		}
	}
}

func TestRisingAndFalling(t *testing.T) {
	both(t, []int64{1, 2, 3, 4}, []byte{2, 2, 0xe4})
	both(t, []int64{4, 3, 2, 1}, []byte{2, 2, 0x1b})
	both(t, []int64{-2, -1, 0, 1, 2}, []byte{3, 3, 0x88, 0x46})
	both(t, []int64{2, 1, 0, -1, -2}, []byte{3, 3, 0x9c, 0x02})
	for _, n := range []int{2, 3, 9, 100} {
		for _, first := range []int64{0, -1, 1, -1 << 32, 1 << 40, -50, least} {
			for _, step := range []int64{1, 2, 7, 300, 1 << 32} {
				l := rising(first, step, n)
				above := make([]uint64, n)
				for i := range above {
					above[i] = uint64(step) * uint64(i)
				}
				both(t, l, at(first, above...))
				slices.Reverse(l)
				slices.Reverse(above)
				both(t, l, at(first, above...))
			}
		}
	}
}

// The least one stands at each place, alone and more than once.
func TestLeastAtEachPlace(t *testing.T) {
	both(t, []int64{-3, 5, 9, -2}, at(-3, 0, 8, 12, 1))
	both(t, []int64{5, -3, 9, -2}, at(-3, 8, 0, 12, 1))
	both(t, []int64{5, 9, -2, -3}, at(-3, 8, 12, 1, 0))
	both(t, []int64{-3, 5, -3, 9, -3}, at(-3, 0, 8, 0, 12, 0))
	for _, first := range []int64{0, 1, -1, 64, -300, 1 << 62, least, most - 2} {
		for n := 1; n < 20; n++ {
			for i := range n {
				above := slices.Repeat([]uint64{1, 2, 1}, n)[:n]
				above[i] = 0
				both(t, plus(first, above), at(first, above...))
				above[n-1-i] = 0
				both(t, plus(first, above), at(first, above...))
			}
		}
	}
	for _, n := range []int{api.MaxRows - 1, api.MaxRows} {
		for _, i := range []int{0, 1, n / 2, n - 2, n - 1} {
			l := often(8, n)
			l[i] = -7
			both(t, l, form(l))
		}
	}
}

func TestAnyOrder(t *testing.T) {
	both(t, []int64{3, 1, 4, 1, 5, 9, 2, 6}, []byte{2, 4, 0x02, 0x03, 0x84, 0x51})
	both(t, []int64{1, 0, 1, 1, 0, 0, 0, 0}, []byte{0, 1, 0x0d})
	both(t, []int64{1, 0, 1, 1, 0, 0, 0, 0, 1}, []byte{0, 1, 0x0d, 1})
	both(t, edges(), form(edges()))
	for _, n := range []int{2, 3, 4, 5, 8, 9, 10, 17, 100, 1000} {
		for width := range 65 {
			l := mixed(n, width)
			if b := form(l); len(b) < 2 || widthOf(aboveOf(l)) != width {
				t.Fatalf("%d numbers aren't in %d bits", n, width)
			}
			both(t, l, form(l))
		}
		for _, l := range full(n) {
			both(t, l, form(l))
		}
	}
}

// The greatest difference that goes into each width, and the least that doesn't;
// alone beside the least one, ahead of it and behind it, and within others.
func TestEachWidth(t *testing.T) {
	for width := 1; width < 65; width++ {
		for _, d := range []uint64{all(width), all(width) - 1, 1 << (width - 1)} {
			if d < 1<<(width-1) {
				continue // it needs less: 0 of a width of 1
			}
			for _, first := range []int64{highest(width), least, 0, -1, 64, -300} {
				if d > room(first) {
					continue
				}
				for _, above := range [][]uint64{{0, d}, {d, 0}, {d, 0, 0}, {0, 0, d}, {0, d, 0}, {0, 0, 0, d, 0, 0, 0, 0}, {d, d, 0, d}, {0, d, 1, d, 1}} {
					l := plus(first, above)
					b := laid(first, width, packed(above, width))
					if head := len(binary.AppendVarint(nil, first)); int(b[head]) != width || len(b) != head+1+(len(above)*width+7)/8 {
						t.Fatalf("%d: %x isn't in %d bits", l, b, width)
					}
					both(t, l, b)
				}
			}
		}
	}
	for width := range 64 {
		over := uint64(1) << width
		first := highest(width + 1)
		both(t, plus(first, []uint64{0, over}), laid(first, width+1, packed([]uint64{0, over}, width+1)))
		both(t, plus(first, []uint64{over, 0, over - 1}), laid(first, width+1, packed([]uint64{over, 0, over - 1}, width+1)))
	}
	both(t, []int64{0, 1}, []byte{0, 1, 2})
	both(t, []int64{0, 2}, []byte{0, 2, 8})
	both(t, []int64{0, 3}, []byte{0, 2, 12})
	both(t, []int64{0, 4}, []byte{0, 3, 0x20})
	both(t, []int64{0, 7}, []byte{0, 3, 0x38})
	both(t, []int64{0, 8}, []byte{0, 4, 0x80})
}

func TestMost(t *testing.T) {
	for _, n := range []int{api.MaxRows - 1, api.MaxRows} {
		for _, l := range full(n) {
			both(t, l, form(l))
		}
	}
	l := rising(-9, 1, api.MaxRows)
	b := []byte{0x11, 16}
	for i := range l {
		b = append(b, byte(i), byte(i>>8))
	}
	both(t, l, b)
}

func TestBeyondMost(t *testing.T) {
	for _, n := range []int{api.MaxRows + 1, api.MaxRows + 2, 2 * api.MaxRows, 3*api.MaxRows + 5} {
		for _, l := range full(n) {
			if b, e := fore.Put(l); e != api.ErrLimit || len(b) != 0 {
				t.Fatalf("%d numbers: %d bytes, error %d", n, len(b), e)
			}
		}
	}
}

// P12.1: Get

// ErrArg comes ahead of all that is wrong with the bytes, and of bytes that are
// right but for how many numbers they have.
func TestGetWrongCount(t *testing.T) {
	like := [][]byte{
		nil, {}, {0}, {0x80}, {0x80, 0}, {0, 0}, {0, 65}, {0, 255}, {0, 1, 1}, {0xc8, 1, 2, 0x1c}, bytes.Repeat([]byte{0xff}, 20),
		form(rising(5, 1, api.MaxRows+1)), form(rising(5, 1, api.MaxRows+2)), form(rising(5, 1, 2*api.MaxRows)), form(mixed(api.MaxRows+1, 64)),
	}
	for _, n := range []int{-1, -2, -api.MaxRows, -1 << 32, math.MinInt, math.MinInt + 1, api.MaxRows + 1, api.MaxRows + 2, 2 * api.MaxRows, 1 << 32, 1<<32 + 1, 1 << 62, math.MaxInt - 1, math.MaxInt} {
		for _, b := range like {
			wantGetErr(t, b, n, api.ErrArg)
		}
	}
}

func TestGetNone(t *testing.T) {
	wantGet(t, nil, 0, nil)
	wantGet(t, []byte{}, 0, nil)
	for _, b := range [][]byte{{0}, {1}, {0, 0}, {0, 65}, {0x80}, {0x80, 0}, {0xff}, {0xc8, 1, 2, 0x1c}, make([]byte, 100), bytes.Repeat([]byte{0xff}, 20)} {
		wantGetErr(t, b, 0, api.ErrLong)
	}
	for v := range 256 {
		wantGetErr(t, []byte{byte(v)}, 0, api.ErrLong)
	}
}

// Of one number the difference is 0, so the width is, and nothing is behind it.
func TestGetOne(t *testing.T) {
	for _, v := range edges() {
		b := form([]int64{v})
		wantGet(t, b, 1, []int64{v})
		for _, left := range [][]byte{{0}, {1}, {64}, {65}, {255}, {0, 0}, {0x80, 0}, make([]byte, 1000)} {
			wantGetErr(t, join(b, left), 1, api.ErrLong)
		}
		for width := 1; width < 65; width++ {
			size := (width + 7) / 8
			wantGetErr(t, laid(v, width, make([]byte, size)), 1, api.ErrForm)
			wantGetErr(t, laid(v, width, packed([]uint64{all(width)}, width)), 1, api.ErrForm)
			wantGetErr(t, laid(v, width, make([]byte, size-1)), 1, api.ErrShort)
			wantGetErr(t, laid(v, width, make([]byte, size+1)), 1, api.ErrLong)
		}
	}
}

// Bytes that end in the least one, or ahead of the width, are too few.
func TestGetShort(t *testing.T) {
	counts := []int{1, 2, 3, 9, 129, api.MaxRows - 1, api.MaxRows}
	for _, n := range counts {
		wantGetErr(t, nil, n, api.ErrShort)
		wantGetErr(t, []byte{}, n, api.ErrShort)
		for _, part := range [][]byte{{0x80}, {0xff}, {0xff, 0xff}, bytes.Repeat([]byte{0x80}, 9), bytes.Repeat([]byte{0x80}, 10), append(bytes.Repeat([]byte{0xff}, 9), 0x81)} {
			wantGetErr(t, part, n, api.ErrShort)
		}
	}
	for _, v := range edges() {
		b := binary.AppendVarint(nil, v)
		for _, n := range counts[:5] {
			for end := range len(b) + 1 {
				wantGetErr(t, b[:end], n, api.ErrShort)
			}
		}
	}
	for _, n := range counts {
		wantGetErr(t, []byte{0}, n, api.ErrShort)
		wantGetErr(t, binary.AppendVarint(nil, least), n, api.ErrShort)
	}
}

// That holds wherever the bytes end: in the differences, too, of each width.
func TestGetShortEachPlace(t *testing.T) {
	for width := range 65 {
		for _, n := range []int{2, 3, 9, 10, 60} {
			l := mixed(n, width)
			b := form(l)
			for end := range len(b) {
				wantGetErr(t, b[:end], n, api.ErrShort)
			}
			wantGet(t, b, n, l)
		}
	}
	for _, l := range full(api.MaxRows)[4:] {
		b := form(l)
		for _, end := range []int{0, 1, len(b) / 2, len(b) - 1} {
			wantGetErr(t, b[:end], len(l), api.ErrShort)
		}
	}
}

// bad are short numbers that can't be: one that is 0 behind a byte that tells of
// it, one above 64 bits, and one of more than ten bytes.
func bad() [][]byte {
	var l [][]byte
	for n := 1; n < 10; n++ {
		l = append(l, append(bytes.Repeat([]byte{0x80}, n), 0), append(bytes.Repeat([]byte{0xff}, n), 0))
	}
	for _, c := range []byte{2, 3, 4, 0x40, 0x7e, 0x7f, 0x82, 0x83, 0xfe, 0xff} {
		l = append(l, append(bytes.Repeat([]byte{0x80}, 9), c), append(bytes.Repeat([]byte{0xff}, 9), c))
	}
	for _, c := range []byte{0, 1, 0x7f, 0x80, 0x81, 0xff} {
		l = append(l, append(bytes.Repeat([]byte{0x80}, 10), c), append(bytes.Repeat([]byte{0xff}, 9), 0x81, c))
	}
	return l
}

// A least one that can't be is told ahead of all that is wrong behind it.
func TestGetLeastForm(t *testing.T) {
	for _, b := range bad() {
		for _, n := range []int{1, 2, 3, 9, api.MaxRows} {
			for _, left := range [][]byte{nil, {0}, {65}, {255}, {0, 0}, {1, 1}, {1, 2}, {0x80}, {5, 1, 1}, b, make([]byte, 100)} {
				wantGetErr(t, join(b, left), n, api.ErrForm)
			}
		}
		wantGetErr(t, b, 0, api.ErrLong)
	}
}

// No width is above 64, whatever is behind it.
func TestGetWidthRange(t *testing.T) {
	for width := 65; width < 256; width++ {
		for _, v := range []int64{0, -1, 300, least, most} {
			for _, n := range []int{1, 2, 3, 9, 100} {
				for _, behind := range [][]byte{nil, {0}, {255}, make([]byte, n*8), bytes.Repeat([]byte{255}, n*8), make([]byte, (n*width+7)/8), bytes.Repeat([]byte{255}, n*width/8), make([]byte, 4000)} {
					wantGetErr(t, laid(v, width, behind), n, api.ErrRange)
				}
			}
		}
	}
	wantGetErr(t, laid(5, 65, make([]byte, api.MaxRows*65/8)), api.MaxRows, api.ErrRange)
	wantGetErr(t, laid(5, 255, nil), api.MaxRows, api.ErrRange)
	wantGet(t, laid(least, 64, append(make([]byte, 8), bytes.Repeat([]byte{255}, 8)...)), 2, []int64{least, most})
}

// Behind the width are just as many bytes as the differences need, of any width:
// that is asked ahead of whether they are right ones.
func TestGetSizes(t *testing.T) {
	for width := range 65 {
		for _, n := range []int{1, 2, 3, 7, 8, 9, 10, 17, 100} {
			size := (n*width + 7) / 8
			for _, c := range []byte{0, 1, 255} {
				for _, behind := range []int{size - 1, size - 2, size / 2, 1, 0} {
					if behind >= 0 && behind < size {
						wantGetErr(t, laid(5, width, bytes.Repeat([]byte{c}, behind)), n, api.ErrShort)
					}
				}
				for _, behind := range []int{size + 1, size + 2, size + 8, 2*size + 1, size + 1000} {
					wantGetErr(t, laid(5, width, bytes.Repeat([]byte{c}, behind)), n, api.ErrLong)
				}
			}
			l := mixed(n, width)
			for _, left := range [][]byte{{0}, {1}, {0x80}, {0, 0}, make([]byte, 1000)} {
				wantGetErr(t, join(form(l), left), n, api.ErrLong)
			}
		}
	}
	l := mixed(api.MaxRows, 13)
	wantGetErr(t, append(form(l), 0), api.MaxRows, api.ErrLong)
}

// Each bit behind the last difference, alone, and all of them.
func TestGetBitsLeft(t *testing.T) {
	for width := 1; width < 65; width++ {
		for _, n := range []int{2, 3, 4, 5, 6, 7, 8, 9, 10, 101} {
			b := form(mixed(n, width))
			used := n * width % 8
			if used == 0 {
				continue
			}
			for bit := used; bit < 8; bit++ {
				turned := bytes.Clone(b)
				turned[len(b)-1] |= 1 << bit
				wantGetErr(t, turned, n, api.ErrForm)
				turned[len(b)-1] |= 255 << used
				wantGetErr(t, turned, n, api.ErrForm)
				wantGetErr(t, turned[:len(b)-1], n, api.ErrShort)
				wantGetErr(t, append(turned, 0), n, api.ErrLong)
			}
		}
	}
}

// A width above the least one is refused, by one and by all up to 64; one below
// it tells of fewer bytes than there are, or of other differences.
func TestGetWidthNotLeast(t *testing.T) {
	for need := range 65 {
		for _, n := range []int{2, 3, 9, 60} {
			l := mixed(n, need)
			wantGet(t, wide(l, need), n, l)
			for width := need + 1; width < 65; width++ {
				wantGetErr(t, wide(l, width), n, api.ErrForm)
			}
			for width := range need {
				wantAny(t, laid(lowest(l), width, packed(aboveOf(l), need)), n)
			}
		}
	}
	for width := 1; width < 65; width++ {
		wantGetErr(t, wide(often(5, 2), width), 2, api.ErrForm)
		wantGetErr(t, wide(often(5, 100), width), 100, api.ErrForm)
	}
	for _, width := range []int{1, 2, 64} {
		wantGetErr(t, wide(often(5, api.MaxRows), width), api.MaxRows, api.ErrForm)
	}
	one := often(5, 1000)
	one[999]++
	for width := 2; width < 65; width++ {
		wantGetErr(t, wide(one, width), 1000, api.ErrForm)
	}
	wantGet(t, wide(one, 1), 1000, one)
}

// The least one itself is there: where no difference is 0, another one would be
// the least.
func TestGetNoneIsLeast(t *testing.T) {
	for _, first := range []int64{0, 1, -1, 64, -300, least, least + 1, -1 << 40} {
		for width := 1; width < 64; width++ {
			for n := 1; n < 12; n++ {
				above := some(n, width)
				above[n/2] |= 1 << (width - 1)
				for i, d := range above {
					above[i] = max(d, 1)
				}
				if slices.Max(above) > room(first) {
					continue
				}
				wantGetErr(t, at(first, above...), n, api.ErrForm)
				for i := range above {
					one := slices.Clone(above)
					one[i] = 0
					if widthOf(one) == width {
						wantGet(t, at(first, one...), n, plus(first, one))
					}
				}
			}
		}
	}
	for _, d := range []uint64{1, 2, 255, 1 << 32, math.MaxUint64} {
		for _, n := range []int{1, 2, 8, 1000, api.MaxRows} {
			wantGetErr(t, at(least, slices.Repeat([]uint64{d}, n)...), n, api.ErrForm)
		}
	}
	above := slices.Repeat([]uint64{1}, api.MaxRows)
	for _, i := range []int{0, 1, 40000, api.MaxRows - 1} {
		above[i] = 0
		wantGet(t, at(7, above...), api.MaxRows, plus(7, above))
		above[i] = 1
	}
}

// The least one and a difference lead up to the greatest number, not beyond it,
// by one or by as much as there can be, wherever the difference stands.
func TestGetGreatest(t *testing.T) {
	for _, first := range edges() {
		top := room(first)
		for _, above := range [][]uint64{{0, top}, {top, 0}, {0, top, 0, 0}, {top, top, 0}, {0, top / 2, top}, {top - min(top, 1), 0, top}} {
			wantGet(t, at(first, above...), len(above), plus(first, above))
		}
		if first == least {
			continue // none leads beyond
		}
		beyond := math.MaxUint64 - top // from 1 on
		for _, d := range []uint64{top + 1, top + min(2, beyond), top + beyond/2 + 1, math.MaxUint64 - min(1, beyond-1), math.MaxUint64} {
			for _, above := range [][]uint64{{0, d}, {d, 0}, {0, 0, d}, {d, 0, 0}, {0, d, 0}, {0, d, d}, {d, d, 0}, {0, top, d}, {d, top, 0}, {d, 0, top / 2}} {
				wantGetErr(t, at(first, above...), len(above), api.ErrForm)
			}
		}
	}
	for _, x := range []struct {
		first int64
		top   uint64
	}{
		{least, math.MaxUint64}, {least + 1, math.MaxUint64 - 1}, {-2, 1<<63 + 1}, {-1, 1 << 63}, {0, 1<<63 - 1},
		{1, 1<<63 - 2}, {1 << 62, 1<<62 - 1}, {most - 255, 255}, {most - 2, 2}, {most - 1, 1}, {most, 0},
	} {
		wantGet(t, at(x.first, 0, x.top), 2, []int64{x.first, most})
		if x.top < math.MaxUint64 {
			wantGetErr(t, at(x.first, 0, x.top+1), 2, api.ErrForm)
			wantGetErr(t, at(x.first, 0, math.MaxUint64), 2, api.ErrForm)
		}
	}
	above := make([]uint64, api.MaxRows)
	for _, i := range []int{0, 1, 40000, api.MaxRows - 1} {
		above[i] = 1
		wantGet(t, at(most-1, above...), api.MaxRows, plus(most-1, above))
		wantGetErr(t, at(most, above...), api.MaxRows, api.ErrForm)
		above[i] = 0
	}
}

// Of all that is wrong the error is told that is named first.
func TestGetFirstError(t *testing.T) {
	wrong := []byte{0x80, 0}
	for _, x := range []struct {
		what string
		b    []byte
		n    int
		e    api.Errno
	}{
		{"bad least one, bytes left", join(wrong, []byte{0, 0}), 1, api.ErrForm},
		{"bad least one, bad width", join(wrong, []byte{65}), 2, api.ErrForm},
		{"bad least one, no width", wrong, 2, api.ErrForm},
		{"the least one ends early", []byte{0x80}, 2, api.ErrShort},
		{"bad width, nothing behind", []byte{0, 65}, 2, api.ErrRange},
		{"bad width, bytes missing", []byte{0, 65, 0, 0}, 2, api.ErrRange},
		{"bad width, bytes left", join([]byte{0, 65}, make([]byte, 100)), 2, api.ErrRange},
		{"bytes missing, a wide width", []byte{0, 64}, 2, api.ErrShort},
		{"bytes missing, none is 0", []byte{0, 9, 0xff, 0xff}, 2, api.ErrShort},
		{"bytes missing, beyond the greatest", join(binary.AppendVarint(nil, most), []byte{8, 0}), 2, api.ErrShort},
		{"bytes left, a wide width", []byte{0, 1, 0, 0}, 2, api.ErrLong},
		{"bytes left, a bit left", []byte{0, 1, 4, 0}, 2, api.ErrLong},
		{"bytes left, none is 0", []byte{0, 1, 3, 0}, 2, api.ErrLong},
		{"bytes left, beyond the greatest", join(binary.AppendVarint(nil, most), []byte{1, 2, 0}), 2, api.ErrLong},
		{"bytes left behind no width", []byte{0, 0, 0}, 2, api.ErrLong},
		{"a bit left", []byte{0, 1, 6}, 2, api.ErrForm},
		{"a wide width", []byte{0, 1, 0}, 2, api.ErrForm},
		{"none is 0", []byte{0, 1, 3}, 2, api.ErrForm},
		{"beyond the greatest", join(binary.AppendVarint(nil, most), []byte{1, 2}), 2, api.ErrForm},
		{"all is right", []byte{0, 1, 2}, 2, api.OK},
		{"of none nothing is read", wrong, 0, api.ErrLong},
		{"nor too few bytes", []byte{0x80}, 0, api.ErrLong},
		{"nor a width", []byte{0, 65}, 0, api.ErrLong},
		{"how many is below 0", []byte{0x80}, -1, api.ErrArg},
		{"how many is too many", []byte{0, 65}, api.MaxRows + 1, api.ErrArg},
	} {
		if l, e := fore.Get(x.b, x.n); e != x.e || (e != api.OK && len(l) != 0) {
			t.Fatalf("%s: %d, error %d, not %d", x.what, l, e, x.e)
		}
	}
}

// wantAny looks whether Get answers what the words of the document say, and if
// that is numbers, whether they are put as they were.
func wantAny(t *testing.T, b []byte, n int) {
	t.Helper()
	want, e := read(b, n)
	if e != api.OK {
		wantGetErr(t, b, n, e)
		return
	}
	both(t, want, b)
}

// The form of some numbers is refused as that of others, or it is the form of
// another list: where all are the same, of as many as are asked for.
func TestGetOtherCounts(t *testing.T) {
	for _, l := range full(100) {
		b := form(l)
		for n := range 300 {
			wantAny(t, b, n)
		}
	}
	for n := 1; n < 20; n++ {
		wantGet(t, form(often(5, 9)), n, often(5, n))
	}
}

// All bytes up to two, for some counts.
func TestGetAnyBytes(t *testing.T) {
	for n := -1; n < 5; n++ {
		wantAny(t, nil, n)
		for v := range 1 << 8 {
			wantAny(t, []byte{byte(v)}, n)
		}
		for v := range 1 << 16 {
			wantAny(t, []byte{byte(v), byte(v >> 8)}, n)
		}
	}
}

// All bytes behind some widths, up to two, with a least one of any kind.
func TestGetAnyDifferences(t *testing.T) {
	for _, first := range []int64{1, -1, least, most, most - 1, most - 5, most - 100} {
		for _, width := range []int{0, 1, 2, 3, 4, 5, 6, 7, 8, 9, 10, 16, 64, 65} {
			for n := 1; n < 11; n++ {
				wantAny(t, laid(first, width, nil), n)
				for v := range 1 << 8 {
					wantAny(t, laid(first, width, []byte{byte(v)}), n)
				}
			}
		}
	}
	for _, first := range []int64{1, most - 5, most - 100} {
		for _, width := range []int{3, 7, 9} {
			for v := range 1 << 16 {
				for n := 2; n < 5; n++ {
					wantAny(t, laid(first, width, []byte{byte(v), byte(v >> 8)}), n)
				}
			}
		}
	}
}

// Up to six of the bytes at which something changes, for all counts that they
// may have.
func TestGetEdgeBytes(t *testing.T) {
	some := []byte{0, 1, 2, 0x7f, 0x80, 0x81}
	for size, k := 0, 1; size < 7; size, k = size+1, k*len(some) {
		for v := range k {
			b := make([]byte, size)
			for i := range b {
				b[i] = some[v%len(some)]
				v /= len(some)
			}
			for n := range 10 {
				wantAny(t, b, n)
			}
		}
	}
}

// Bytes of which one is turned, left out, or put in, at each place.
func TestGetTurnedBytes(t *testing.T) {
	for _, l := range [][]int64{{300, 301, 299, 299, 310}, {-1, 0, -1, least, most}, {most, most - 9, most - 1}, often(least, 4), mixed(12, 5)} {
		b := form(l)
		for i := range b {
			for n := len(l) - 1; n < len(l)+2; n++ {
				for v := range 1 << 8 {
					turned := bytes.Clone(b)
					turned[i] = byte(v)
					wantAny(t, turned, n)
					wantAny(t, slices.Insert(bytes.Clone(b), i, byte(v)), n)
				}
				wantAny(t, slices.Delete(bytes.Clone(b), i, i+1), n)
			}
		}
	}
}

// P12.2

func TestPutIsRead(t *testing.T) {
	lists := [][]int64{nil, edges(), slices.Sorted(slices.Values(edges()))}
	for _, n := range []int{0, 1, 2, 3, 100, 2000, api.MaxRows} {
		lists = append(lists, full(n)...)
	}
	for _, l := range lists {
		b, e := fore.Put(l)
		if e != api.OK {
			t.Fatalf("%d numbers %.20d: error %d", len(l), l, e)
		}
		wantGet(t, b, len(l), l)
	}
}

// All lists of up to six of five numbers; those of as many numbers have all
// other forms.
func TestAllShortLists(t *testing.T) {
	some := []int64{0, -1, 2, most, least}
	for size, k := 0, 1; size < 7; size, k = size+1, k*len(some) {
		seen := map[string]int{}
		for v := range k {
			l := make([]int64, size)
			for i := range l {
				l[i] = some[v%len(some)]
				v /= len(some)
			}
			b := form(l)
			both(t, l, b)
			seen[string(b)]++
		}
		if len(seen) != k {
			t.Fatalf("%d lists of %d numbers, %d forms", k, size, len(seen))
		}
	}
}

func TestReadIsPut(t *testing.T) {
	for k := range 6000 {
		n := k%17 + 2
		width := k % 65
		above := some(n, width)
		slices.Reverse(above[k%n:])
		first := min(int64(chance(k))>>(k%60), highest(width))
		b := laid(first, width, packed(above, width))
		got, e := fore.Get(b, n)
		if e != api.OK || !slices.Equal(got, plus(first, above)) {
			t.Fatalf("%d of %x: %d, error %d", n, b, got, e)
		}
		wantPut(t, got, b)
	}
}

// Memory (R4) and one answer (R7).

func TestPutLeavesWhatIsHandedIn(t *testing.T) {
	room := mixed(900, 20)
	l := room[300:600]
	kept := slices.Clone(room)
	want := form(l)
	b, _ := fore.Put(l)
	c, _ := fore.Put(l)
	if !slices.Equal(room, kept) {
		t.Fatal("the list isn't what it was")
	}
	for i := range b {
		b[i] ^= 0xff
	}
	_ = append(b, 1, 2, 3)
	if !bytes.Equal(c, want) || !slices.Equal(room, kept) {
		t.Fatal("answers share memory")
	}
	wantPut(t, l, want)
	clear(l)
	if !bytes.Equal(c, want) {
		t.Fatal("the answer changed with the list")
	}
	wantPut(t, l, form(make([]int64, 300)))
}

// What lies behind a list in its memory, and ahead of it, isn't read.
func TestNotAround(t *testing.T) {
	room := mixed(300, 30)
	for n := range 150 {
		l := slices.Clone(room[n : 2*n])
		wantPut(t, room[n:2*n], form(l))
	}
	falling := rising(10, -1, 300)
	for n := range 150 {
		wantPut(t, falling[n:2*n], form(rising(10-int64(n), -1, n)))
	}
}

// What lies behind the bytes in their memory isn't read: it would make right
// what is too short.
func TestGetLeavesWhatIsHandedIn(t *testing.T) {
	want := mixed(900, 20)
	room := join(form(want), form(want))
	kept := bytes.Clone(room)
	b := room[:len(form(want))]
	l, _ := fore.Get(b, len(want))
	m, _ := fore.Get(b, len(want))
	for _, end := range []int{0, 1, 2, 3, 10, 100, len(b) - 1} {
		wantGetErr(t, room[:end], len(want), api.ErrShort)
	}
	wantGetErr(t, room, len(want), api.ErrLong)
	if !bytes.Equal(room, kept) {
		t.Fatal("the bytes aren't what they were")
	}
	clear(l)
	_ = append(l, 1, 2, 3)
	if !slices.Equal(m, want) || !bytes.Equal(room, kept) {
		t.Fatal("answers share memory")
	}
	clear(b)
	if !slices.Equal(m, want) {
		t.Fatal("the answer changed with the bytes")
	}
}

// An answer hangs on nothing that was asked ahead of it, an error least of all.
func TestOneAnswer(t *testing.T) {
	l := mixed(500, 10)
	b := form(l)
	for range 3 {
		both(t, l, b)
		wantGetErr(t, b[:len(b)-1], len(l), api.ErrShort)
		both(t, nil, nil)
		wantGetErr(t, b, -1, api.ErrArg)
		wantGetErr(t, []byte{0x80, 0}, 1, api.ErrForm)
		wantGetErr(t, laid(l[0], 65, nil), 2, api.ErrRange)
		wantGetErr(t, wide(l, 11), len(l), api.ErrForm)
		wantGetErr(t, at(most, 0, 1), 2, api.ErrForm)
		wantGetErr(t, append(bytes.Clone(b), 0), len(l), api.ErrLong)
		fore.Put(make([]int64, api.MaxRows+1))
	}
}
