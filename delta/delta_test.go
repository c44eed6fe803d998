package delta_test

import (
	"bytes"
	"encoding/binary"
	"math"
	"slices"
	"testing"

	"estreat/api"
	"estreat/delta"
)

// edges are the numbers at which something changes: 0, the least and the
// greatest one, and those around each power of two, on both sides of 0.
func edges() []int64 {
	l := []int64{0, -1, 1, 300, -300, math.MinInt64, math.MinInt64 + 1, math.MaxInt64, math.MaxInt64 - 1}
	for i := range 63 {
		p := int64(1) << i
		l = append(l, p-2, p-1, p, p+1, -p-2, -p-1, -p, -p+1)
	}
	return l
}

// often is n times v.
func often(v int64, n int) []int64 {
	return slices.Repeat([]int64{v}, n)
}

// rising is n numbers from a first one on, each a step above the one ahead;
// they go round where they run over.
func rising(first, step int64, n int) []int64 {
	l := make([]int64, n)
	for i := range l {
		l[i] = first + step*int64(i)
	}
	return l
}

// mixed is n numbers up and down, whose steps go into a width, and some of which
// need all of it (of 0: all the same).
func mixed(n, width int) []int64 {
	l := make([]int64, n)
	sum := int64(n) - 70
	for i := range l {
		l[i] = sum
		v := uint64(i+1) * 6364136223846793005
		v ^= v >> 31
		sum += unzig(cut(v, width))
		if width > 0 && i%7 == 0 {
			sum = l[i] + unzig(uint64(1)<<(width-1)|cut(v, width-1))
		}
	}
	return l
}

func cut(v uint64, width int) uint64 {
	return v & (1<<width - 1)
}

// full is lists of n numbers of all kinds.
func full(n int) [][]int64 {
	l := [][]int64{make([]int64, n), often(-1, n), often(math.MinInt64, n), often(math.MaxInt64, n)}
	l = append(l, rising(10, 1, n), rising(-5, -1, n), rising(math.MaxInt64-3, 1, n), rising(7, 1<<40+9, n), rising(0, math.MinInt64, n))
	turned := make([]int64, n)
	for i := range turned {
		turned[i] = []int64{math.MinInt64, math.MaxInt64}[i%2]
	}
	l = append(l, turned)
	for _, width := range []int{1, 2, 3, 7, 8, 9, 31, 32, 33, 63, 64} {
		l = append(l, mixed(n, width))
	}
	return l
}

// zig is a number turned by the words of the document.
func zig(n int64) uint64 {
	if n < 0 {
		return -(2 * uint64(n)) - 1
	}
	return 2 * uint64(n)
}

func unzig(v uint64) int64 {
	if v%2 == 1 {
		return -int64(v/2) - 1
	}
	return int64(v / 2)
}

// turned is the steps of l behind the first number, each turned.
func turned(l []int64) []uint64 {
	var steps []uint64
	for i := 1; i < len(l); i++ {
		steps = append(steps, zig(l[i]-l[i-1]))
	}
	return steps
}

// least is the least width that all numbers of l go into.
func least(l []uint64) int {
	width := 0
	for _, v := range l {
		for width < 64 && v>>width > 0 {
			width++
		}
	}
	return width
}

// packed is numbers packed in a width, bit by bit.
func packed(l []uint64, width int) []byte {
	b := make([]byte, (len(l)*width+7)/8)
	at := 0
	for _, v := range l {
		for k := range width {
			b[at/8] |= byte(v>>k&1) << (at % 8)
			at++
		}
	}
	return b
}

// laid is the parts of a form, whether they may be together or not.
func laid(first int64, width int, behind []byte) []byte {
	return join(binary.AppendVarint(nil, first), []byte{byte(width)}, behind)
}

// wide is the form of l, but with that width, whatever the least one is.
func wide(l []int64, width int) []byte {
	return laid(l[0], width, packed(turned(l), width))
}

// form is the form of steps of l by the words of the document.
func form(l []int64) []byte {
	switch len(l) {
	case 0:
		return nil
	case 1:
		return binary.AppendVarint(nil, l[0])
	}
	return wide(l, least(turned(l)))
}

// read is what Get answers by the words of the document.
func read(b []byte, n int) ([]int64, api.Errno) {
	if n < 0 || n > api.MaxRows {
		return nil, api.ErrArg
	}
	var l []int64
	if n > 0 {
		size, e := first(b)
		if e != api.OK {
			return nil, e
		}
		v, _ := binary.Varint(b[:size])
		l = append(l, v)
		b = b[size:]
	}
	if n > 1 {
		steps, e := behind(b, n-1)
		if e != api.OK {
			return nil, e
		}
		for _, v := range steps {
			l = append(l, l[len(l)-1]+unzig(v))
		}
		b = nil
	}
	if len(b) > 0 {
		return nil, api.ErrLong
	}
	return l, api.OK
}

// first is how many bytes the short number has that b begins with.
func first(b []byte) (int, api.Errno) {
	for i, c := range b {
		if i > 0 && c == 0 || i == 9 && c%128 > 1 || i == 10 {
			return 0, api.ErrForm
		}
		if c < 128 {
			return i + 1, api.OK
		}
	}
	return 0, api.ErrShort
}

// behind is the n turned steps of b, a width and what is packed in it.
func behind(b []byte, n int) ([]uint64, api.Errno) {
	if len(b) == 0 {
		return nil, api.ErrShort
	}
	width := int(b[0])
	b = b[1:]
	if width > 64 {
		return nil, api.ErrRange
	}
	size := (n*width + 7) / 8
	if len(b) < size {
		return nil, api.ErrShort
	}
	if len(b) > size {
		return nil, api.ErrLong
	}
	l := make([]uint64, n)
	for at := range 8 * size {
		bit := uint64(b[at/8] >> (at % 8) & 1)
		if at >= n*width {
			if bit == 1 {
				return nil, api.ErrForm
			}
			continue
		}
		l[at/width] |= bit << (at % width)
	}
	if least(l) != width {
		return nil, api.ErrForm
	}
	return l, api.OK
}

// join is all parts, one behind the other, in new memory.
func join(parts ...[]byte) []byte {
	return bytes.Join(parts, nil)
}

// wantSteps looks whether l has these steps, and these steps are those of l.
func wantSteps(t *testing.T, l, steps []int64) {
	t.Helper()
	if got := delta.Steps(l); len(got) != len(l) || !slices.Equal(got, steps) {
		t.Fatalf("%d numbers %.20d: steps %.20d, not %.20d", len(l), l, got, steps)
	}
	if got := delta.Sums(steps); len(got) != len(steps) || !slices.Equal(got, l) {
		t.Fatalf("%d steps %.20d: of %.20d, not %.20d", len(steps), steps, got, l)
	}
}

// stepsOf is the steps of l by the words of the document.
func stepsOf(l []int64) []int64 {
	steps := slices.Clone(l)
	for i := 1; i < len(l); i++ {
		steps[i] = int64(uint64(l[i]) - uint64(l[i-1]))
	}
	return steps
}

// wantPut looks whether want is what Put answers.
func wantPut(t *testing.T, l []int64, want []byte) {
	t.Helper()
	b, e := delta.Put(l)
	if e != api.OK || !bytes.Equal(b, want) {
		t.Fatalf("%d numbers %.20d: %.40x, error %d, not %.40x", len(l), l, b, e, want)
	}
}

func wantGet(t *testing.T, b []byte, n int, want []int64) {
	t.Helper()
	l, e := delta.Get(b, n)
	if e != api.OK || len(l) != n || !slices.Equal(l, want) {
		t.Fatalf("%d of %.40x: %d numbers %.20d, error %d, not %.20d", n, b, len(l), l, e, want)
	}
}

func wantGetErr(t *testing.T, b []byte, n int, want api.Errno) {
	t.Helper()
	if l, e := delta.Get(b, n); e != want || len(l) != 0 {
		t.Fatalf("%d of %d bytes %.40x: %d numbers %.20d, error %d, not %d", n, len(b), b, len(l), l, e, want)
	}
}

// both looks whether l is put as b and b is read as l.
func both(t *testing.T, l []int64, b []byte) {
	t.Helper()
	wantPut(t, l, b)
	wantGet(t, b, len(l), l)
}

// The document's example.

func TestExample(t *testing.T) {
	wantSteps(t, []int64{10, 11, 13}, []int64{10, 1, 2})
	both(t, []int64{10, 11, 13}, []byte{0x14, 0x03, 0x22})
}

// P10.1: Steps and Sums

func TestStepsOfNone(t *testing.T) {
	for _, l := range [][]int64{nil, {}, make([]int64, 0, 10), often(1, 3)[:0]} {
		wantSteps(t, l, nil)
		if n := len(delta.Sums(l)); n != 0 {
			t.Fatalf("%d sums of no steps", n)
		}
	}
}

func TestStepsOfOne(t *testing.T) {
	for _, v := range edges() {
		wantSteps(t, []int64{v}, []int64{v})
	}
}

func TestStepsOfTwo(t *testing.T) {
	for _, x := range [][2][]int64{
		{{0, 0}, {0, 0}}, {{5, 5}, {5, 0}}, {{5, 6}, {5, 1}}, {{6, 5}, {6, -1}}, {{-5, 5}, {-5, 10}}, {{5, -5}, {5, -10}},
		{{-1, 0}, {-1, 1}}, {{0, -1}, {0, -1}}, {{300, 100}, {300, -200}},
	} {
		wantSteps(t, x[0], x[1])
	}
	l := edges()
	for _, a := range l {
		for _, b := range l {
			wantSteps(t, []int64{a, b}, stepsOf([]int64{a, b}))
		}
	}
}

// A difference that is no number of 64 bits with a sign goes round, and so does
// a sum.
func TestStepsGoRound(t *testing.T) {
	const least, most = math.MinInt64, math.MaxInt64
	for _, x := range [][2][]int64{
		{{least, most}, {least, -1}}, {{most, least}, {most, 1}},
		{{least, most, least, most}, {least, -1, 1, -1}}, {{most, least, most, most}, {most, 1, -1, 0}},
		{{0, least}, {0, least}}, {{least, 0}, {least, least}}, {{0, least, 0}, {0, least, least}},
		{{0, most}, {0, most}}, {{most, 0}, {most, -most}}, {{0, most, -1}, {0, most, least}},
		{{1, least}, {1, most}}, {{least, 1}, {least, least + 1}}, {{-1, most}, {-1, least}}, {{most, -1}, {most, least}},
		{{-2, most}, {-2, least + 1}}, {{2, least}, {2, most - 1}}, {{most, most - 1, most}, {most, -1, 1}},
		{{least + 1, least, most, most - 1}, {least + 1, -1, -1, -1}}, {{most - 1, most, least, least + 1}, {most - 1, 1, 1, 1}},
		{{1 << 62, -1 << 62}, {1 << 62, least}}, {{-1 << 62, 1 << 62}, {-1 << 62, least}},
		{{most, -2, most - 2}, {most, most, most}}, {{least, 0, least, 0}, {least, least, least, least}},
	} {
		wantSteps(t, x[0], x[1])
	}
}

func TestStepsOfMany(t *testing.T) {
	wantSteps(t, []int64{3, 3, 4, 2, 2, -7, 300}, []int64{3, 0, 1, -2, 0, -9, 307})
	wantSteps(t, rising(10, 3, 500), slices.Concat([]int64{10}, often(3, 499)))
	wantSteps(t, often(7, 500), slices.Concat([]int64{7}, make([]int64, 499)))
	wantSteps(t, often(0, 500), make([]int64, 500))
	wantSteps(t, edges(), stepsOf(edges()))
	for _, n := range []int{3, 4, 100, 2000} {
		for _, l := range full(n) {
			wantSteps(t, l, stepsOf(l))
		}
	}
}

// Steps and Sums have no limit.
func TestStepsBeyondMost(t *testing.T) {
	for _, n := range []int{api.MaxRows - 1, api.MaxRows, api.MaxRows + 1, api.MaxRows + 2, 2 * api.MaxRows, 3*api.MaxRows + 5} {
		for _, l := range full(n) {
			wantSteps(t, l, stepsOf(l))
		}
		wantSteps(t, rising(10, 3, n), slices.Concat([]int64{10}, often(3, n-1)))
	}
}

// P10.1: Put

func TestNone(t *testing.T) {
	for _, l := range [][]int64{nil, {}, make([]int64, 0, 10), often(1, 3)[:0]} {
		both(t, l, nil)
	}
}

func TestOne(t *testing.T) {
	for _, x := range []struct {
		n int64
		b []byte
	}{
		{0, []byte{0}}, {-1, []byte{1}}, {1, []byte{2}}, {-2, []byte{3}}, {10, []byte{0x14}},
		{63, []byte{0x7e}}, {-64, []byte{0x7f}}, {64, []byte{0x80, 1}}, {-65, []byte{0x81, 1}}, {300, []byte{0xd8, 4}},
		{math.MaxInt64, []byte{0xfe, 255, 255, 255, 255, 255, 255, 255, 255, 1}},
		{math.MinInt64, []byte{0xff, 255, 255, 255, 255, 255, 255, 255, 255, 1}},
	} {
		both(t, []int64{x.n}, x.b)
	}
	for _, v := range edges() {
		both(t, []int64{v}, form([]int64{v}))
	}
}

func TestTwo(t *testing.T) {
	for _, x := range []struct {
		l []int64
		b []byte
	}{
		{[]int64{0, 0}, []byte{0, 0}}, {[]int64{5, 5}, []byte{0x0a, 0}}, {[]int64{-1, -1}, []byte{1, 0}}, {[]int64{300, 300}, []byte{0xd8, 4, 0}},
		{[]int64{0, -1}, []byte{0, 1, 1}}, {[]int64{0, 1}, []byte{0, 2, 2}}, {[]int64{5, 3}, []byte{0x0a, 2, 3}}, {[]int64{5, 7}, []byte{0x0a, 3, 4}},
		{[]int64{0, 127}, []byte{0, 8, 0xfe}}, {[]int64{0, -128}, []byte{0, 8, 0xff}}, {[]int64{0, 128}, []byte{0, 9, 0, 1}}, {[]int64{0, -129}, []byte{0, 9, 1, 1}},
		{[]int64{0, math.MaxInt64}, []byte{0, 64, 0xfe, 255, 255, 255, 255, 255, 255, 255}},
		{[]int64{0, math.MinInt64}, []byte{0, 64, 255, 255, 255, 255, 255, 255, 255, 255}},
		{[]int64{-1, math.MaxInt64}, []byte{1, 64, 255, 255, 255, 255, 255, 255, 255, 255}},
		{[]int64{math.MinInt64, math.MaxInt64}, []byte{0xff, 255, 255, 255, 255, 255, 255, 255, 255, 1, 1, 1}},
		{[]int64{math.MaxInt64, math.MinInt64}, []byte{0xfe, 255, 255, 255, 255, 255, 255, 255, 255, 1, 2, 2}},
	} {
		both(t, x.l, x.b)
	}
	l := edges()
	for i, a := range l {
		for _, b := range l[i%5:] {
			both(t, []int64{a, b}, form([]int64{a, b}))
		}
	}
}

// Numbers that are all the same have a width of 0, and nothing behind it.
func TestAllTheSame(t *testing.T) {
	for _, v := range edges() {
		for _, n := range []int{2, 3, 8, 9, 10, 129, 1000} {
			both(t, often(v, n), join(form([]int64{v}), []byte{0}))
		}
	}
	for _, v := range []int64{0, 5, math.MinInt64, math.MaxInt64} {
		for _, n := range []int{5000, api.MaxRows - 1, api.MaxRows} {
			both(t, often(v, n), join(form([]int64{v}), []byte{0}))
		}
	}
}

func TestMany(t *testing.T) {
	both(t, []int64{1, 0, -1, -2, -3, -4, -5, -6, -7}, []byte{2, 1, 0xff})
	both(t, []int64{1, 0, -1, -2, -3, -4, -5, -6, -7, -8}, []byte{2, 1, 0xff, 1})
	both(t, []int64{1, 1, 0, 0, -1, -1, -1, -2, -2}, []byte{2, 1, 0x4a})
	both(t, []int64{0, 1, 2, 3, 4}, []byte{0, 2, 0xaa})
	both(t, []int64{0, 1, 2, 3, 4, 5}, []byte{0, 2, 0xaa, 2})
	both(t, []int64{0, 1, 0, 0, -2}, []byte{0, 2, 0xc6})
	both(t, []int64{300, 172, 299}, []byte{0xd8, 4, 8, 0xff, 0xfe})
	both(t, []int64{math.MinInt64, math.MaxInt64, math.MinInt64}, join(form([]int64{math.MinInt64}), []byte{2, 9}))
	both(t, edges(), form(edges()))
	for _, n := range []int{3, 4, 5, 8, 9, 10, 17, 100, 1000} {
		for _, l := range full(n) {
			both(t, l, form(l))
		}
	}
}

// The greatest steps that go into each width, and the least that don't, on both
// sides of 0; alone, and first, last and within others that need less.
func TestEachWidth(t *testing.T) {
	for width := 1; width < 65; width++ {
		most := uint64(math.MaxUint64) >> (64 - width)
		for _, turn := range []uint64{most, most - 1, most/2 + 1} {
			step := unzig(turn)
			if width == 1 && turn != 1 {
				continue // 0 has no width
			}
			for _, first := range []int64{0, -1, 64, math.MinInt64, math.MaxInt64} {
				for _, steps := range [][]int64{{step}, {step, 0}, {0, step}, {0, 0, 0, step, 0, 0, 0, 0}, {step, step, step}, {0, step, -1, step, -1}} {
					l := delta.Sums(append([]int64{first}, steps...))
					b := form(l)
					if head := len(form([]int64{first})); int(b[head]) != width || len(b) != head+1+(len(steps)*width+7)/8 {
						t.Fatalf("%d: %x isn't in %d bits", l, b, width)
					}
					both(t, l, b)
				}
			}
		}
	}
	for width := range 64 {
		over := unzig(1 << width)
		both(t, []int64{0, over}, laid(0, width+1, packed([]uint64{1 << width}, width+1)))
		both(t, []int64{0, over, over}, laid(0, width+1, packed([]uint64{1 << width, 0}, width+1)))
	}
}

// The first number counts for no width, however far from 0 it is.
func TestFirstHasNoWidth(t *testing.T) {
	for _, v := range edges() {
		both(t, []int64{v, v, v - 1}, join(form([]int64{v}), []byte{1, 2}))
		both(t, []int64{v, v - 1, v}, join(form([]int64{v}), []byte{2, 9}))
	}
}

func TestMost(t *testing.T) {
	for _, n := range []int{api.MaxRows - 1, api.MaxRows} {
		for _, l := range full(n) {
			both(t, l, form(l))
		}
	}
	both(t, rising(0, -1, api.MaxRows), laid(0, 1, append(bytes.Repeat([]byte{0xff}, api.MaxRows/8-1), 0x7f)))
}

func TestBeyondMost(t *testing.T) {
	for _, n := range []int{api.MaxRows + 1, api.MaxRows + 2, 2 * api.MaxRows, 3*api.MaxRows + 5} {
		for _, l := range full(n) {
			if b, e := delta.Put(l); e != api.ErrLimit || len(b) != 0 {
				t.Fatalf("%d numbers: %d bytes, error %d", n, len(b), e)
			}
		}
	}
}

// P10.1: Get

// ErrArg comes ahead of all that is wrong with the bytes, and of bytes that are
// right but for how many numbers they have.
func TestGetWrongCount(t *testing.T) {
	for _, n := range []int{-1, -2, -api.MaxRows, -1 << 32, math.MinInt, math.MinInt + 1, api.MaxRows + 1, api.MaxRows + 2, 2 * api.MaxRows, 1 << 32, 1<<32 + 1, 1 << 62, math.MaxInt - 1, math.MaxInt} {
		for _, b := range [][]byte{
			nil, {}, {0}, {0x80}, {0x80, 0}, {0, 0}, {0, 65}, {0, 255}, {0, 1, 1}, {0x14, 3, 0x22}, bytes.Repeat([]byte{0xff}, 20),
			form(rising(5, 1, api.MaxRows+1)), form(rising(5, 1, api.MaxRows+2)), form(rising(5, 1, 2*api.MaxRows)), form(mixed(api.MaxRows+1, 64)),
		} {
			wantGetErr(t, b, n, api.ErrArg)
		}
	}
}

func TestGetNone(t *testing.T) {
	wantGet(t, nil, 0, nil)
	wantGet(t, []byte{}, 0, nil)
	for _, b := range [][]byte{{0}, {1}, {0, 0}, {0, 65}, {0x80}, {0x80, 0}, {0xff}, {0x14, 3, 0x22}, make([]byte, 100), bytes.Repeat([]byte{0xff}, 20)} {
		wantGetErr(t, b, 0, api.ErrLong)
	}
}

// Behind one number nothing may be: what is there isn't read.
func TestGetOneLong(t *testing.T) {
	for _, v := range edges() {
		b := form([]int64{v})
		wantGet(t, b, 1, []int64{v})
		for _, left := range [][]byte{{0}, {1}, {64}, {65}, {255}, {0, 0}, {1, 1}, {0x80}, {0x80, 0}, make([]byte, 1000), bytes.Repeat([]byte{0xff}, 1000)} {
			wantGetErr(t, join(b, left), 1, api.ErrLong)
		}
	}
}

// Bytes that end in the first number, or ahead of the width, are too few.
func TestGetShort(t *testing.T) {
	counts := []int{1, 2, 3, 9, 129, api.MaxRows - 1, api.MaxRows}
	for _, n := range counts {
		wantGetErr(t, nil, n, api.ErrShort)
		wantGetErr(t, []byte{}, n, api.ErrShort)
		for _, part := range [][]byte{{0x80}, {0xff}, {0xff, 0xff}, bytes.Repeat([]byte{0x80}, 9), bytes.Repeat([]byte{0x80}, 10), append(bytes.Repeat([]byte{0xff}, 9), 0x81)} {
			wantGetErr(t, part, n, api.ErrShort)
		}
	}
	for _, v := range edges() {
		b := form([]int64{v})
		for end := range len(b) {
			wantGetErr(t, b[:end], 1, api.ErrShort)
			wantGetErr(t, b[:end], 2, api.ErrShort)
		}
		wantGetErr(t, b, 2, api.ErrShort)
		wantGetErr(t, b, 9, api.ErrShort)
	}
	for _, n := range counts[1:] {
		wantGetErr(t, []byte{0}, n, api.ErrShort)
		wantGetErr(t, form([]int64{math.MinInt64}), n, api.ErrShort)
	}
}

// That holds wherever the bytes end: in the steps, too, of each width.
func TestGetShortEachPlace(t *testing.T) {
	for width := 1; width < 65; width++ {
		for _, n := range []int{2, 3, 9, 10, 60} {
			l := mixed(n, width)
			b := form(l)
			for end := range len(b) {
				wantGetErr(t, b[:end], n, api.ErrShort)
			}
			wantGet(t, b, n, l)
		}
	}
	for _, l := range full(api.MaxRows)[4:] {
		b := form(l)
		for _, end := range []int{0, 1, len(b) / 2, len(b) - 1} {
			wantGetErr(t, b[:end], len(l), api.ErrShort)
		}
	}
}

// bad are short numbers that can't be: one that is 0 behind a byte that tells of
// it, one above 64 bits, and one of more than ten bytes.
func bad() [][]byte {
	var l [][]byte
	for n := 1; n < 10; n++ {
		l = append(l, append(bytes.Repeat([]byte{0x80}, n), 0), append(bytes.Repeat([]byte{0xff}, n), 0))
	}
	for _, c := range []byte{2, 3, 4, 0x40, 0x7e, 0x7f, 0x82, 0x83, 0xfe, 0xff} {
		l = append(l, append(bytes.Repeat([]byte{0x80}, 9), c), append(bytes.Repeat([]byte{0xff}, 9), c))
	}
	for _, c := range []byte{0, 1, 0x7f, 0x80, 0x81, 0xff} {
		l = append(l, append(bytes.Repeat([]byte{0x80}, 10), c), append(bytes.Repeat([]byte{0xff}, 9), 0x81, c))
	}
	return l
}

// A first number that can't be is told ahead of all that is wrong behind it.
func TestGetFirstForm(t *testing.T) {
	for _, b := range bad() {
		for _, n := range []int{1, 2, 3, 9, api.MaxRows} {
			for _, left := range [][]byte{nil, {0}, {65}, {255}, {0, 0}, {1, 1}, {1, 2}, {0x80}, {5, 1, 1}, b, make([]byte, 100)} {
				wantGetErr(t, join(b, left), n, api.ErrForm)
			}
		}
		wantGetErr(t, b, 0, api.ErrLong)
	}
}

// No width is above 64, whatever is behind it.
func TestGetWidthRange(t *testing.T) {
	for width := 65; width < 256; width++ {
		for _, v := range []int64{0, -1, 300, math.MinInt64, math.MaxInt64} {
			for _, n := range []int{2, 3, 9, 100} {
				for _, behind := range [][]byte{nil, {0}, {255}, make([]byte, (n-1)*8), bytes.Repeat([]byte{255}, (n-1)*8), make([]byte, ((n-1)*width+7)/8), bytes.Repeat([]byte{255}, (n-1)*width/8), make([]byte, 4000)} {
					wantGetErr(t, laid(v, width, behind), n, api.ErrRange)
				}
			}
			wantGetErr(t, laid(v, width, nil), 1, api.ErrLong)
		}
	}
	wantGetErr(t, laid(5, 65, make([]byte, (api.MaxRows-1)*65/8+1)), api.MaxRows, api.ErrRange)
	wantGetErr(t, laid(5, 255, nil), api.MaxRows, api.ErrRange)
	wantGet(t, laid(5, 64, bytes.Repeat([]byte{255}, 8)), 2, []int64{5, math.MinInt64 + 5})
}

// Behind the width are just as many bytes as the steps need, of any width: that
// is asked ahead of whether it is the least one.
func TestGetSizes(t *testing.T) {
	for width := range 65 {
		for _, n := range []int{2, 3, 8, 9, 10, 17, 100} {
			size := ((n-1)*width + 7) / 8
			for _, c := range []byte{0, 1, 255} {
				for _, behind := range []int{size - 1, size - 2, size / 2, 1, 0} {
					if behind >= 0 && behind < size {
						wantGetErr(t, laid(5, width, bytes.Repeat([]byte{c}, behind)), n, api.ErrShort)
					}
				}
				for _, behind := range []int{size + 1, size + 2, size + 8, 2*size + 1, size + 1000} {
					wantGetErr(t, laid(5, width, bytes.Repeat([]byte{c}, behind)), n, api.ErrLong)
				}
			}
			l := mixed(n, width)
			for _, left := range [][]byte{{0}, {1}, {0x80}, {0, 0}, make([]byte, 1000)} {
				wantGetErr(t, join(form(l), left), n, api.ErrLong)
			}
		}
	}
}

// Each bit behind the last step, alone, and all of them.
func TestGetBitsLeft(t *testing.T) {
	for width := 1; width < 65; width++ {
		for _, n := range []int{2, 3, 4, 5, 6, 7, 8, 9, 10, 100} {
			l := mixed(n, width)
			b := form(l)
			bits := (n - 1) * width
			if bits%8 == 0 {
				continue
			}
			for bit := bits % 8; bit < 8; bit++ {
				turned := bytes.Clone(b)
				turned[len(b)-1] |= 1 << bit
				wantGetErr(t, turned, n, api.ErrForm)
				turned[len(b)-1] |= 255 << (bits % 8)
				wantGetErr(t, turned, n, api.ErrForm)
				wantGetErr(t, turned[:len(b)-1], n, api.ErrShort)
				wantGetErr(t, append(turned, 0), n, api.ErrLong)
			}
		}
	}
}

// A width above the least one is refused, by one and by all up to 64; one below
// it tells of fewer bytes than there are, or of other steps.
func TestGetWidthNotLeast(t *testing.T) {
	for least := range 65 {
		for _, n := range []int{2, 3, 9, 60} {
			l := mixed(n, least)
			wantGet(t, wide(l, least), n, l)
			for width := least + 1; width < 65; width++ {
				wantGetErr(t, wide(l, width), n, api.ErrForm)
			}
		}
	}
	for width := 1; width < 65; width++ {
		wantGetErr(t, wide(often(5, 2), width), 2, api.ErrForm)
		wantGetErr(t, wide(often(5, 100), width), 100, api.ErrForm)
	}
	for _, width := range []int{1, 2, 64} {
		wantGetErr(t, wide(often(5, api.MaxRows), width), api.MaxRows, api.ErrForm)
	}
	for width := 3; width < 65; width++ {
		wantGetErr(t, wide(rising(5, 1, 1000), width), 1000, api.ErrForm)
	}
	one := rising(5, 0, 1000)
	one[999]--
	for width := 2; width < 65; width++ {
		wantGetErr(t, wide(one, width), 1000, api.ErrForm)
	}
	wantGet(t, wide(one, 1), 1000, one)
}

// Of all that is wrong the error is told that is named first.
func TestGetFirstError(t *testing.T) {
	wrong := []byte{0x80, 0}
	for _, x := range []struct {
		b []byte
		n int
		e api.Errno
	}{
		{join(wrong, []byte{0}), 1, api.ErrForm},                  // the number can't be, and bytes are left
		{join(wrong, []byte{65}), 2, api.ErrForm},                 // the number can't be, and neither can the width
		{join(wrong, []byte{5, 1, 1}), 2, api.ErrForm},            // the number can't be, and bytes are left
		{wrong, 2, api.ErrForm},                                   // the number can't be, and there is no width
		{[]byte{0x80}, 2, api.ErrShort},                           // the number ends early
		{[]byte{0, 65}, 2, api.ErrRange},                          // the width, and bytes are missing
		{[]byte{0, 65, 0, 0}, 2, api.ErrRange},                    // likewise
		{join([]byte{0, 65}, make([]byte, 100)), 2, api.ErrRange}, // the width, and bytes are left
		{[]byte{0, 64}, 2, api.ErrShort},                          // bytes are missing, and the width isn't the least one
		{[]byte{0, 9, 0}, 2, api.ErrShort},                        // likewise
		{[]byte{0, 1, 0, 0}, 2, api.ErrLong},                      // bytes are left, and the width isn't the least one
		{[]byte{0, 1, 2, 0}, 2, api.ErrLong},                      // bytes are left, and so is a bit
		{[]byte{0, 0, 0}, 2, api.ErrLong},                         // bytes are left behind no width
		{[]byte{0, 0, 1}, 2, api.ErrLong},                         // likewise
		{[]byte{0, 1, 3}, 2, api.ErrForm},                         // a bit is left
		{[]byte{0, 1, 2}, 2, api.ErrForm},                         // a bit is left, and the width isn't the least one
		{[]byte{0, 1, 0}, 2, api.ErrForm},                         // the width isn't the least one
		{[]byte{0, 65}, 1, api.ErrLong},                           // what is left isn't read
		{[]byte{0, 1, 2}, 1, api.ErrLong},                         // likewise
		{wrong, 0, api.ErrLong},                                   // likewise
		{[]byte{0x80}, 0, api.ErrLong},                            // likewise
		{[]byte{0x80}, -1, api.ErrArg},                            // how many comes ahead of all
		{wrong, api.MaxRows + 1, api.ErrArg},                      // likewise
		{[]byte{0, 65}, api.MaxRows + 1, api.ErrArg},              // likewise
	} {
		wantGetErr(t, x.b, x.n, x.e)
	}
}

// wantAny looks whether Get answers as the document says of any bytes.
func wantAny(t *testing.T, b []byte, n int) {
	t.Helper()
	want, e := read(b, n)
	if e != api.OK {
		wantGetErr(t, b, n, e)
		return
	}
	both(t, want, b)
}

// The form of some numbers is refused as that of others, or it is the form of
// another list: where all are the same, of as many as are asked for.
func TestGetOtherCounts(t *testing.T) {
	for _, l := range full(100) {
		b := form(l)
		for n := range 300 {
			wantAny(t, b, n)
		}
	}
	l := often(5, 9)
	for n := 2; n < 20; n++ {
		wantGet(t, form(l), n, often(5, n))
	}
}

// All bytes up to two, for some counts.
func TestGetAnyBytes(t *testing.T) {
	for n := -1; n < 5; n++ {
		wantAny(t, nil, n)
		for v := range 1 << 8 {
			wantAny(t, []byte{byte(v)}, n)
		}
		for v := range 1 << 16 {
			wantAny(t, []byte{byte(v), byte(v >> 8)}, n)
		}
	}
}

// All bytes behind some widths, up to two.
func TestGetAnySteps(t *testing.T) {
	for _, width := range []byte{0, 1, 2, 3, 4, 5, 6, 7, 8, 9, 10, 16, 64, 65} {
		for n := 1; n < 11; n++ {
			wantAny(t, []byte{1, width}, n)
			for v := range 1 << 8 {
				wantAny(t, []byte{1, width, byte(v)}, n)
			}
		}
	}
	for _, width := range []byte{3, 7, 9} {
		for v := range 1 << 16 {
			for n := 2; n < 5; n++ {
				wantAny(t, []byte{1, width, byte(v), byte(v >> 8)}, n)
			}
		}
	}
}

// Up to six of the bytes at which something changes, for all counts that they
// may have.
func TestGetEdgeBytes(t *testing.T) {
	some := []byte{0, 1, 2, 0x7f, 0x80, 0x81}
	for size, k := 0, 1; size < 7; size, k = size+1, k*len(some) {
		for v := range k {
			b := make([]byte, size)
			for i := range b {
				b[i] = some[v%len(some)]
				v /= len(some)
			}
			for n := range 10 {
				wantAny(t, b, n)
			}
		}
	}
}

// Bytes of which one is turned, left out, or put in, at each place.
func TestGetTurnedBytes(t *testing.T) {
	for _, l := range [][]int64{{300, 301, 299, 299, 310}, {-1, 0, -1, math.MinInt64, math.MaxInt64}, often(math.MinInt64, 4), mixed(12, 5)} {
		b := form(l)
		for i := range b {
			for n := len(l) - 1; n < len(l)+2; n++ {
				for v := range 1 << 8 {
					turned := bytes.Clone(b)
					turned[i] = byte(v)
					wantAny(t, turned, n)
					wantAny(t, slices.Insert(bytes.Clone(b), i, byte(v)), n)
				}
				wantAny(t, slices.Delete(bytes.Clone(b), i, i+1), n)
			}
		}
	}
}

// P10.2

func TestPutIsRead(t *testing.T) {
	lists := [][]int64{nil, edges(), slices.Sorted(slices.Values(edges()))}
	for _, n := range []int{0, 1, 2, 3, 100, 2000, api.MaxRows} {
		lists = append(lists, full(n)...)
	}
	for _, l := range lists {
		b, e := delta.Put(l)
		if e != api.OK {
			t.Fatalf("%d numbers %.20d: error %d", len(l), l, e)
		}
		wantGet(t, b, len(l), l)
	}
}

// All lists of up to six of five numbers; those of as many numbers have all
// other forms.
func TestAllShortLists(t *testing.T) {
	some := []int64{0, -1, 2, math.MaxInt64, math.MinInt64}
	for size, k := 0, 1; size < 7; size, k = size+1, k*len(some) {
		seen := map[string]int{}
		for v := range k {
			l := make([]int64, size)
			for i := range l {
				l[i] = some[v%len(some)]
				v /= len(some)
			}
			b := form(l)
			both(t, l, b)
			seen[string(b)]++
		}
		if len(seen) != k {
			t.Fatalf("%d lists of %d numbers, %d forms", k, size, len(seen))
		}
	}
}

func TestReadIsPut(t *testing.T) {
	for k := range 6000 {
		n := k%17 + 2
		width := k % 65
		l := make([]uint64, n-1)
		for i := range l {
			l[i] = cut(uint64(k*31+i+1)*2862933555777941757, width)
		}
		if width > 0 {
			l[k%len(l)] |= 1 << (width - 1)
		}
		b := laid(int64(k*31-4000)<<(k%50), width, packed(l, width))
		got, e := delta.Get(b, n)
		if e != api.OK || len(got) != n {
			t.Fatalf("%d of %x: %d numbers, error %d", n, b, len(got), e)
		}
		wantPut(t, got, b)
	}
}

// Each goes back from the other, whatever the list is taken for.
func TestSumsGoBack(t *testing.T) {
	lists := [][]int64{nil, {0}, {math.MinInt64}, edges()}
	for _, n := range []int{0, 1, 2, 3, 100, 2000, api.MaxRows, api.MaxRows + 1} {
		lists = append(lists, full(n)...)
	}
	for _, l := range lists {
		if got := delta.Sums(delta.Steps(l)); !slices.Equal(got, l) {
			t.Fatalf("%d numbers %.20d: back %.20d", len(l), l, got)
		}
		if got := delta.Steps(delta.Sums(l)); !slices.Equal(got, l) {
			t.Fatalf("%d steps %.20d: back %.20d", len(l), l, got)
		}
	}
}

// Memory (R4) and one answer (R7).

func TestPutLeavesWhatIsHandedIn(t *testing.T) {
	room := mixed(900, 20)
	l := room[300:600]
	kept := slices.Clone(room)
	want := form(l)
	b, _ := delta.Put(l)
	c, _ := delta.Put(l)
	if !slices.Equal(room, kept) {
		t.Fatal("the list isn't what it was")
	}
	for i := range b {
		b[i] ^= 0xff
	}
	_ = append(b, 1, 2, 3)
	if !bytes.Equal(c, want) || !slices.Equal(room, kept) {
		t.Fatal("answers share memory")
	}
	wantPut(t, l, want)
	clear(l)
	if !bytes.Equal(c, want) {
		t.Fatal("the answer changed with the list")
	}
	wantPut(t, l, form(make([]int64, 300)))
}

func TestStepsLeaveWhatIsHandedIn(t *testing.T) {
	for _, call := range []func([]int64) []int64{delta.Steps, delta.Sums} {
		room := mixed(900, 20)
		l := room[300:600]
		kept := slices.Clone(room)
		a := call(l)
		b := call(l)
		want := slices.Clone(b)
		if !slices.Equal(room, kept) {
			t.Fatal("the list isn't what it was")
		}
		clear(a)
		_ = append(a, 1, 2, 3)
		if !slices.Equal(b, want) || !slices.Equal(room, kept) {
			t.Fatal("answers share memory")
		}
		clear(l)
		if !slices.Equal(b, want) {
			t.Fatal("the answer changed with the list")
		}
		one := []int64{5}
		call(one)[0] = 6
		if one[0] != 5 {
			t.Fatal("an answer of one number is the list")
		}
	}
}

// What lies behind a list in its memory, and ahead of it, isn't read.
func TestNotAround(t *testing.T) {
	room := mixed(300, 30)
	for n := range 150 {
		l := slices.Clone(room[n : 2*n])
		wantPut(t, room[n:2*n], form(l))
		wantSteps(t, room[n:2*n], stepsOf(l))
		if got := delta.Sums(room[n : 2*n]); !slices.Equal(stepsOf(got), l) {
			t.Fatalf("%d steps: of %.20d", n, got)
		}
	}
}

// What lies behind the bytes in their memory isn't read: it would make right
// what is too short.
func TestGetLeavesWhatIsHandedIn(t *testing.T) {
	want := mixed(900, 20)
	room := join(form(want), form(want))
	kept := bytes.Clone(room)
	b := room[:len(form(want))]
	l, _ := delta.Get(b, len(want))
	m, _ := delta.Get(b, len(want))
	wantGetErr(t, b[:len(b)-1], len(want), api.ErrShort)
	wantGetErr(t, room[:1], len(want), api.ErrShort)
	wantGetErr(t, room[:2], len(want), api.ErrShort)
	wantGetErr(t, room, len(want), api.ErrLong)
	if !bytes.Equal(room, kept) {
		t.Fatal("the bytes aren't what they were")
	}
	clear(l)
	_ = append(l, 1, 2, 3)
	if !slices.Equal(m, want) || !bytes.Equal(room, kept) {
		t.Fatal("answers share memory")
	}
	clear(b)
	if !slices.Equal(m, want) {
		t.Fatal("the answer changed with the bytes")
	}
}

// An answer hangs on nothing that was asked ahead of it, an error least of all.
func TestOneAnswer(t *testing.T) {
	l := mixed(500, 10)
	b := form(l)
	for range 3 {
		both(t, l, b)
		wantSteps(t, l, stepsOf(l))
		wantGetErr(t, b[:len(b)-1], len(l), api.ErrShort)
		both(t, nil, nil)
		wantGetErr(t, b, -1, api.ErrArg)
		wantGetErr(t, []byte{0x80, 0}, 1, api.ErrForm)
		wantGetErr(t, laid(l[0], 65, nil), 2, api.ErrRange)
		wantGetErr(t, wide(l, 11), len(l), api.ErrForm)
		wantGetErr(t, append(bytes.Clone(b), 0), len(l), api.ErrLong)
		delta.Put(make([]int64, api.MaxRows+1))
	}
}
