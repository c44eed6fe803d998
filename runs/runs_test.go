package runs_test

import (
	"bytes"
	"encoding/binary"
	"math"
	"slices"
	"testing"

	"estreat/api"
	"estreat/runs"
)

// edges are the numbers at which something changes: 0, the least and the
// greatest one, and those around each power of two, on both sides of 0. No two
// neighbours are the same.
func edges() []int64 {
	l := []int64{0, -1, 1, 300, -300, math.MinInt64, math.MinInt64 + 1, math.MaxInt64, math.MaxInt64 - 1}
	for i := range 63 {
		p := int64(1) << i
		l = append(l, p-2, p-1, p, p+1, -p-2, -p-1, -p, -p+1)
	}
	return slices.Compact(l)
}

// lengths are how often a number stands in a run, around each length at which
// the bytes get more, and around powers of two.
func lengths() []int {
	l := []int{1, 2, 3, 127, 128, 129, 130, 255, 256, 257, 300, 16383, 16384, 16385, 16386, 32768, 65534, 65535, 65536}
	for i := 2; i < 16; i++ {
		l = append(l, 1<<i-1, 1<<i, 1<<i+1)
	}
	return l
}

// often is n times v.
func often(v int64, n int) []int64 {
	return slices.Repeat([]int64{v}, n)
}

// unlike is n numbers of all lengths, each of which differs from its
// neighbours.
func unlike(n int) []int64 {
	l := make([]int64, n)
	for i := range l {
		v := int64(uint64(i+1)*6364136223846793005) >> (i % 61)
		if i > 0 && v == l[i-1] {
			v++
		}
		l[i] = v
	}
	return l
}

// mixed is n numbers in runs of one to most, some of which have a number that
// stood there ahead.
func mixed(n, most int) []int64 {
	l := make([]int64, 0, n+most)
	for i := 0; len(l) < n; i++ {
		v := int64(uint64(i%23+1)*2862933555777941757) >> (i % 23 * 2)
		l = append(l, often(v, i*7%most+1)...)
	}
	return l[:n:n]
}

// full is lists of n numbers of all kinds.
func full(n int) [][]int64 {
	l := [][]int64{make([]int64, n), often(-1, n), often(math.MinInt64, n), often(math.MaxInt64, n), unlike(n)}
	turned := make([]int64, n)
	for i := range turned {
		turned[i] = []int64{math.MinInt64, math.MaxInt64}[i%2]
	}
	l = append(l, turned)
	for _, most := range []int{1, 2, 3, 10, 127, 128, 129, 130, 1000, 20000} {
		l = append(l, mixed(n, most))
	}
	return l
}

// run is the bytes of a run, whether it may be where it is laid or not.
func run(less uint64, v int64) []byte {
	return binary.AppendVarint(binary.AppendUvarint(nil, less), v)
}

// form is the form of runs of l by the words of the document.
func form(l []int64) []byte {
	var b []byte
	for len(l) > 0 {
		n := slices.IndexFunc(l, func(v int64) bool { return v != l[0] })
		if n < 0 {
			n = len(l)
		}
		b = append(b, run(uint64(n-1), l[0])...)
		l = l[n:]
	}
	return b
}

// count is how many runs l has: one begins with each number that isn't the one
// ahead.
func count(l []int64) int {
	n := 0
	for i, v := range l {
		if i == 0 || v != l[i-1] {
			n++
		}
	}
	return n
}

// read is what Get answers by the words of the document.
func read(b []byte, n int) ([]int64, api.Errno) {
	if n < 0 || n > api.MaxRows {
		return nil, api.ErrArg
	}
	var l []int64
	for len(l) < n {
		head, e := first(b)
		if e != api.OK {
			return nil, e
		}
		less, _ := binary.Uvarint(b[:head])
		size, e := first(b[head:])
		if e != api.OK {
			return nil, e
		}
		v, _ := binary.Varint(b[head : head+size])
		if less > uint64(n-len(l)-1) {
			return nil, api.ErrRange
		}
		if len(l) > 0 && v == l[len(l)-1] {
			return nil, api.ErrForm
		}
		l = append(l, often(v, int(less)+1)...)
		b = b[head+size:]
	}
	if len(b) > 0 {
		return nil, api.ErrLong
	}
	return l, api.OK
}

// first is how many bytes the short number has that b begins with.
func first(b []byte) (int, api.Errno) {
	for i, c := range b {
		if i > 0 && c == 0 || i == 9 && c%128 > 1 || i == 10 {
			return 0, api.ErrForm
		}
		if c < 128 {
			return i + 1, api.OK
		}
	}
	return 0, api.ErrShort
}

// join is all parts, one behind the other, in new memory.
func join(parts ...[]byte) []byte {
	return bytes.Join(parts, nil)
}

// wantPut looks whether want is what Put answers, and what Count does.
func wantPut(t *testing.T, l []int64, want []byte) {
	t.Helper()
	b, e := runs.Put(l)
	if e != api.OK || !bytes.Equal(b, want) {
		t.Fatalf("%d numbers %.20d: %.40x, error %d, not %.40x", len(l), l, b, e, want)
	}
	wantCount(t, l, count(l))
}

func wantCount(t *testing.T, l []int64, want int) {
	t.Helper()
	if n := runs.Count(l); n != want {
		t.Fatalf("%d numbers %.20d: %d runs, not %d", len(l), l, n, want)
	}
}

func wantGet(t *testing.T, b []byte, n int, want []int64) {
	t.Helper()
	l, e := runs.Get(b, n)
	if e != api.OK || len(l) != n || !slices.Equal(l, want) {
		t.Fatalf("%d of %.40x: %d numbers %.20d, error %d, not %.20d", n, b, len(l), l, e, want)
	}
}

func wantGetErr(t *testing.T, b []byte, n int, want api.Errno) {
	t.Helper()
	if l, e := runs.Get(b, n); e != want || len(l) != 0 {
		t.Fatalf("%d of %.40x: %d numbers %.20d, error %d, not %d", n, b, len(l), l, e, want)
	}
}

// both looks whether l is put as b and b is read as l.
func both(t *testing.T, l []int64, b []byte) {
	t.Helper()
	wantPut(t, l, b)
	wantGet(t, b, len(l), l)
}

// The document's example.

func TestExample(t *testing.T) {
	both(t, []int64{5, 5, 5}, []byte{0x02, 0x0a})
	wantCount(t, []int64{5, 5, 5}, 1)
}

// P9.1: Put and Count

func TestNone(t *testing.T) {
	for _, l := range [][]int64{nil, {}, make([]int64, 0, 10)} {
		wantPut(t, l, nil)
		wantCount(t, l, 0)
	}
}

func TestOne(t *testing.T) {
	for _, x := range []struct {
		n int64
		b []byte
	}{
		{0, []byte{0, 0}}, {-1, []byte{0, 1}}, {1, []byte{0, 2}}, {-2, []byte{0, 3}}, {5, []byte{0, 0x0a}},
		{63, []byte{0, 0x7e}}, {-64, []byte{0, 0x7f}}, {64, []byte{0, 0x80, 1}}, {-65, []byte{0, 0x81, 1}},
		{300, []byte{0, 0xd8, 4}},
		{math.MaxInt64, []byte{0, 0xfe, 255, 255, 255, 255, 255, 255, 255, 255, 1}},
		{math.MinInt64, []byte{0, 0xff, 255, 255, 255, 255, 255, 255, 255, 255, 1}},
	} {
		both(t, []int64{x.n}, x.b)
		wantCount(t, []int64{x.n}, 1)
	}
	for _, n := range edges() {
		both(t, []int64{n}, form([]int64{n}))
	}
}

// How often gets a byte more above 128, and above 16384.
func TestAllTheSame(t *testing.T) {
	for _, x := range []struct {
		n    int
		less []byte
	}{
		{1, []byte{0}}, {2, []byte{1}}, {3, []byte{2}}, {127, []byte{0x7e}}, {128, []byte{0x7f}},
		{129, []byte{0x80, 1}}, {130, []byte{0x81, 1}}, {256, []byte{0xff, 1}}, {257, []byte{0x80, 2}},
		{16384, []byte{0xff, 0x7f}}, {16385, []byte{0x80, 0x80, 1}}, {65535, []byte{0xfe, 0xff, 3}}, {65536, []byte{0xff, 0xff, 3}},
	} {
		both(t, often(5, x.n), append(bytes.Clone(x.less), 0x0a))
		both(t, often(0, x.n), append(bytes.Clone(x.less), 0))
		both(t, often(-1, x.n), append(bytes.Clone(x.less), 1))
		both(t, often(-150, x.n), append(bytes.Clone(x.less), 0xab, 2))
		wantCount(t, often(5, x.n), 1)
	}
	for _, n := range lengths() {
		for _, v := range []int64{0, -1, 64, math.MinInt64, math.MaxInt64} {
			both(t, often(v, n), run(uint64(n-1), v))
			wantCount(t, often(v, n), 1)
		}
	}
}

func TestAllUnlike(t *testing.T) {
	both(t, []int64{1, 2}, []byte{0, 2, 0, 4})
	both(t, []int64{2, 1}, []byte{0, 4, 0, 2})
	both(t, []int64{0, -1, 1, -1, 0}, []byte{0, 0, 0, 1, 0, 2, 0, 1, 0, 0})
	both(t, []int64{math.MinInt64, math.MaxInt64, math.MinInt64}, join(run(0, math.MinInt64), run(0, math.MaxInt64), run(0, math.MinInt64)))
	for _, l := range [][]int64{edges(), unlike(2), unlike(3), unlike(100), unlike(5000), unlike(api.MaxRows)} {
		both(t, l, form(l))
		wantCount(t, l, len(l))
	}
}

// Numbers that differ in one bit alone, or in their sign, are unlike.
func TestUnlikeByOneBit(t *testing.T) {
	for _, v := range edges() {
		for i := range 64 {
			l := []int64{v, v, v ^ 1<<i, v}
			both(t, l, form(l))
			wantCount(t, l, 3)
		}
		if v != -v {
			wantCount(t, []int64{v, -v, v}, 3)
		}
	}
}

// Each length stands ahead of a run, behind one, and between two.
func TestRunsOfEachLength(t *testing.T) {
	for _, n := range lengths() {
		if n+300 > api.MaxRows {
			continue
		}
		a, b, c := often(7, n), often(-8, 129), often(7, 128)
		both(t, slices.Concat(a, b), join(run(uint64(n-1), 7), run(128, -8)))
		both(t, slices.Concat(b, a), join(run(128, -8), run(uint64(n-1), 7)))
		both(t, slices.Concat(c, b, a), join(run(127, 7), run(128, -8), run(uint64(n-1), 7)))
		both(t, slices.Concat(b, a, b), join(run(128, -8), run(uint64(n-1), 7), run(128, -8)))
		wantCount(t, slices.Concat(b, a, b), 3)
	}
	both(t, slices.Concat(often(3, 128), often(4, 129), often(3, 1), often(4, 2)), []byte{0x7f, 6, 0x80, 1, 8, 0, 6, 1, 8})
}

// A number that comes again behind another one begins a run of its own.
func TestComesAgain(t *testing.T) {
	both(t, []int64{1, 1, 2, 1}, []byte{1, 2, 0, 4, 0, 2})
	both(t, []int64{5, 6, 6, 5, 5, 5}, []byte{0, 0x0a, 1, 0x0c, 2, 0x0a})
	both(t, []int64{0, 0, -1, 0, 0}, []byte{1, 0, 0, 1, 1, 0})
	wantCount(t, []int64{0, 0, -1, 0, 0}, 3)
}

func TestMost(t *testing.T) {
	for _, n := range []int{api.MaxRows - 1, api.MaxRows} {
		for _, l := range full(n) {
			both(t, l, form(l))
		}
	}
	wantCount(t, often(9, api.MaxRows), 1)
	wantCount(t, unlike(api.MaxRows), api.MaxRows)
}

// Beyond the limit nothing is put, but the runs are told.
func TestBeyondMost(t *testing.T) {
	for _, n := range []int{api.MaxRows + 1, api.MaxRows + 2, 2 * api.MaxRows, 3*api.MaxRows + 5} {
		for _, l := range full(n) {
			if b, e := runs.Put(l); e != api.ErrLimit || len(b) != 0 {
				t.Fatalf("%d numbers: %d bytes, error %d", n, len(b), e)
			}
			wantCount(t, l, count(l))
		}
		wantCount(t, often(9, n), 1)
		wantCount(t, unlike(n), n)
	}
}

// P9.1: Get

func TestGetNone(t *testing.T) {
	wantGet(t, nil, 0, nil)
	wantGet(t, []byte{}, 0, nil)
	for _, b := range [][]byte{{0}, {1}, {0, 0}, {0x80}, {0x80, 0}, {0xff}, {2, 0x0a}, make([]byte, 100), bytes.Repeat([]byte{0xff}, 20)} {
		wantGetErr(t, b, 0, api.ErrLong)
	}
}

// ErrArg comes ahead of all that is wrong with the bytes, and of bytes that are
// right but for how many numbers they have.
func TestGetWrongCount(t *testing.T) {
	for _, n := range []int{-1, -2, -api.MaxRows, -1 << 32, math.MinInt, math.MinInt + 1, api.MaxRows + 1, api.MaxRows + 2, 2 * api.MaxRows, 1 << 32, 1<<32 + 1, 1 << 62, math.MaxInt - 1, math.MaxInt} {
		for _, b := range [][]byte{
			nil, {}, {0}, {0x80}, {0x80, 0}, {2, 0x0a}, {0, 1, 0, 1}, bytes.Repeat([]byte{0xff}, 20),
			run(api.MaxRows-1, 5), run(api.MaxRows, 5), run(api.MaxRows+1, 5), run(2*api.MaxRows-1, 5), run(1<<32-1, 5), run(1<<32, 5),
			run(math.MaxInt-1, 5), run(math.MaxInt, 5), run(math.MaxUint64, 5), run(math.MaxUint64-1, 5),
			join(run(api.MaxRows-1, 5), run(0, 6)),
		} {
			wantGetErr(t, b, n, api.ErrArg)
		}
	}
}

// Bytes that end in how often, between that and the number, in the number, or
// between two runs, are too few.
func TestGetShort(t *testing.T) {
	for _, n := range []int{1, 2, 3, 127, 128, 129, api.MaxRows} {
		wantGetErr(t, nil, n, api.ErrShort)
		wantGetErr(t, []byte{}, n, api.ErrShort)
	}
	for _, part := range [][]byte{{0x80}, {0xff}, {0xff, 0xff}, bytes.Repeat([]byte{0x80}, 9), bytes.Repeat([]byte{0x80}, 10), append(bytes.Repeat([]byte{0xff}, 9), 0x81)} {
		for n := 1; n < 4; n++ {
			wantGetErr(t, part, n, api.ErrShort)
			wantGetErr(t, join([]byte{0}, part), n, api.ErrShort)
			wantGetErr(t, join(run(0, 5), part), n+1, api.ErrShort)
			wantGetErr(t, join(run(0, 5), []byte{0}, part), n+1, api.ErrShort)
			wantGetErr(t, join(run(0, 0), part), n+1, api.ErrShort)
			wantGetErr(t, join(run(0, 0), []byte{0}, part), n+1, api.ErrShort)
		}
	}
	wantGetErr(t, []byte{0}, 1, api.ErrShort)
	wantGetErr(t, []byte{2}, 3, api.ErrShort)
	wantGetErr(t, []byte{2, 0x0a}, 4, api.ErrShort)
	wantGetErr(t, []byte{2, 0x0a, 0}, 4, api.ErrShort)
	wantGetErr(t, []byte{2, 0, 0}, 4, api.ErrShort)
	wantGetErr(t, run(api.MaxRows-2, 5), api.MaxRows, api.ErrShort)
}

// That holds wherever a list's bytes end.
func TestGetShortEachPlace(t *testing.T) {
	l := slices.Concat(often(-3, 129), edges()[:60], often(0, 300), often(math.MinInt64, 20000), []int64{0}, often(math.MaxInt64, 128))
	b := form(l)
	for end := range len(b) {
		wantGetErr(t, b[:end], len(l), api.ErrShort)
	}
	wantGet(t, b, len(l), l)
}

// bad are short numbers that can't be: one that is 0 behind a byte that tells of
// it, one above 64 bits, and one of more than ten bytes.
func bad() [][]byte {
	var l [][]byte
	for n := 1; n < 10; n++ {
		l = append(l, append(bytes.Repeat([]byte{0x80}, n), 0), append(bytes.Repeat([]byte{0xff}, n), 0))
	}
	for _, c := range []byte{2, 3, 4, 0x40, 0x7e, 0x7f, 0x82, 0x83, 0xfe, 0xff} {
		l = append(l, append(bytes.Repeat([]byte{0x80}, 9), c), append(bytes.Repeat([]byte{0xff}, 9), c))
	}
	for _, c := range []byte{0, 1, 0x7f, 0x80, 0x81, 0xff} {
		l = append(l, append(bytes.Repeat([]byte{0x80}, 10), c), append(bytes.Repeat([]byte{0xff}, 9), 0x81, c))
	}
	return l
}

// A short number that can't be is told ahead of bytes that are missing or left,
// in each of both places of a run, in the first run and in others; what is
// behind the n-th number isn't read.
func TestGetForm(t *testing.T) {
	for _, b := range bad() {
		for _, ahead := range [][]int64{nil, {0}, {-1, 300}, often(5, 129), {math.MinInt64, 0, 0, 64}} {
			at := len(ahead)
			for _, less := range [][]byte{nil, {0}, {1}, {0x80, 1}} {
				laid := join(form(ahead), less, b)
				for _, n := range []int{at + 130, at + 131, api.MaxRows} {
					wantGetErr(t, laid, n, api.ErrForm)
					wantGetErr(t, join(laid, []byte{0}), n, api.ErrForm)
					wantGetErr(t, join(laid, []byte{0, 0, 0, 0}), n, api.ErrForm)
					wantGetErr(t, join(laid, b), n, api.ErrForm)
					wantGetErr(t, join(laid, []byte{0x80}), n, api.ErrForm)
				}
				wantGetErr(t, laid, at, api.ErrLong)
			}
		}
	}
}

// beyond is how often, less 1, that is above left by some.
func beyond(left int) []uint64 {
	n := uint64(left)
	return []uint64{
		n, n + 1, n + 126, n + 127, n + 128, n + api.MaxRows - 1, n + api.MaxRows, 1<<31 - 1 + n, 1<<31 + n, 1<<32 - 1, 1 << 32, 1<<32 + n, 1<<32 + n - 1,
		1<<63 - 2, 1<<63 - 1, 1 << 63, 1<<63 + 1, 1<<63 + n - 1, 1<<63 + n, math.MaxUint64 - n - 1, math.MaxUint64 - n, math.MaxUint64 - n + 1, math.MaxUint64 - 1, math.MaxUint64,
	}
}

// A run may go up to n, and not beyond it, by one, by as much as there is, and
// by so much that it would go round.
func TestGetRange(t *testing.T) {
	for _, ahead := range [][]int64{nil, {0}, {5}, {1, 2}, often(5, 129), {0, 0, -1}, mixed(1000, 130)} {
		at := len(ahead)
		for _, n := range []int{at + 1, at + 2, at + 128, at + 129, at + 16385, api.MaxRows} {
			for _, v := range []int64{77, math.MinInt64, math.MaxInt64} {
				wantGet(t, join(form(ahead), run(uint64(n-at-1), v)), n, append(slices.Clone(ahead), often(v, n-at)...))
				for _, less := range beyond(n - at) {
					b := join(form(ahead), run(less, v))
					wantGetErr(t, b, n, api.ErrRange)
					wantGetErr(t, join(b, []byte{0}), n, api.ErrRange)
					wantGetErr(t, join(b, run(0, 78)), n, api.ErrRange)
					wantGetErr(t, join(b, run(less, v)), n, api.ErrRange)
				}
			}
		}
	}
}

// A run's number isn't that of the run ahead, whatever it is; it may be that of
// a run farther ahead.
func TestGetSameNumber(t *testing.T) {
	for _, v := range edges() {
		for _, x := range []struct{ a, b int }{{1, 1}, {1, 2}, {2, 1}, {128, 129}, {129, 128}, {65535, 1}, {1, 65535}} {
			b := join(run(uint64(x.a-1), v), run(uint64(x.b-1), v))
			wantGetErr(t, b, x.a+x.b, api.ErrForm)
			if x.a+x.b < api.MaxRows {
				wantGetErr(t, b, x.a+x.b+1, api.ErrForm)
				wantGetErr(t, b, api.MaxRows, api.ErrForm)
			}
			wantGetErr(t, b, x.a, api.ErrLong)
			wantGetErr(t, join(b, run(0, v+1)), x.a+x.b, api.ErrForm)
			wantGetErr(t, join(b, run(0, v)), x.a+x.b, api.ErrForm)
		}
		other := v ^ 1
		wantGetErr(t, join(run(0, other), run(1, v), run(0, v)), 4, api.ErrForm)
		wantGetErr(t, join(run(0, v), run(0, other), run(0, v), run(0, v), run(0, other)), 5, api.ErrForm)
		wantGet(t, join(run(0, v), run(1, other), run(0, v)), 4, []int64{v, other, other, v})
	}
}

func TestGetLong(t *testing.T) {
	lists := [][]int64{{0}, {5, 5, 5}, {-1, 300}, {math.MinInt64}, {math.MaxInt64, 0}, often(7, 129), often(7, api.MaxRows), unlike(100), mixed(1000, 10), unlike(api.MaxRows)}
	for _, l := range lists {
		b := form(l)
		last := l[len(l)-1]
		for _, left := range [][]byte{{0}, {1}, {0x80}, {0xff}, {0x80, 0}, {0, 0}, run(0, last), run(0, last+1), run(math.MaxUint64, last), make([]byte, 1000), bytes.Repeat([]byte{0xff}, 1000)} {
			wantGetErr(t, join(b, left), len(l), api.ErrLong)
		}
	}
}

// The form of some numbers isn't that of more, nor of fewer: where fewer end
// within a run it goes beyond them, else bytes are left.
func TestGetOtherCounts(t *testing.T) {
	l := slices.Concat(often(5, 3), []int64{0}, often(-1, 2), often(5, 129), []int64{math.MinInt64, 4, 4})
	b := form(l)
	for n := range len(l) {
		want := api.ErrLong
		if n > 0 && l[n-1] == l[n] {
			want = api.ErrRange
		}
		wantGetErr(t, b, n, want)
	}
	wantGet(t, b, len(l), l)
	for n := len(l) + 1; n < 2*len(l); n++ {
		wantGetErr(t, b, n, api.ErrShort)
	}
}

// Of what is wrong with one run, the error that is named first is told; of
// two runs, that of the first one.
func TestGetFirstError(t *testing.T) {
	long, same, wrong := run(9, 6), run(0, 5), []byte{0x80, 0}
	for _, x := range []struct {
		b []byte
		n int
		e api.Errno
	}{
		{[]byte{9}, 1, api.ErrShort},                                      // beyond n, and no number
		{[]byte{9, 0x80}, 1, api.ErrShort},                                // beyond n, and the number ends early
		{join([]byte{9}, wrong), 1, api.ErrForm},                          // beyond n, and the number can't be
		{join(run(math.MaxUint64, 5)[:10], wrong), 1, api.ErrForm},        // likewise
		{run(math.MaxUint64, 5)[:10], 1, api.ErrShort},                    // beyond n, and no number
		{join(run(0, 5), []byte{9}), 2, api.ErrShort},                     // likewise in the second run
		{join(run(0, 5), []byte{9}, wrong), 2, api.ErrForm},               // likewise
		{join(wrong, []byte{0x80}), 1, api.ErrForm},                       // both can't be
		{join([]byte{0}, wrong), 1, api.ErrForm},                          // the number can't be
		{join(run(0, 5), run(1, 5)), 2, api.ErrRange},                     // beyond n, and the number ahead
		{join(run(0, 5), run(math.MaxUint64, 5)), 2, api.ErrRange},        // likewise
		{join(run(0, 0), run(1, 0)), 2, api.ErrRange},                     // likewise
		{join(long, same), 1, api.ErrRange},                               // beyond n, and bytes are left
		{join(run(0, 5), same, same), 2, api.ErrForm},                     // the number ahead, and bytes are left
		{join(run(0, 5), same, wrong), 3, api.ErrForm},                    // the number ahead, and a number can't be
		{join(run(0, 5), same), 3, api.ErrForm},                           // the number ahead, and bytes are missing
		{join(run(0, 5), same, long), 3, api.ErrForm},                     // the number ahead, then beyond n
		{join(long, wrong), 3, api.ErrRange},                              // beyond n, then a number can't be
		{join(run(0, 5), run(1, 5), run(0, 6)), 3, api.ErrForm},           // the number ahead, just up to n, and bytes are left
		{join(run(0, 5), []byte{0x80}), 1, api.ErrLong},                   // what is left isn't read
		{join(run(0, 5), wrong), 1, api.ErrLong},                          // likewise
		{join(run(0, 5), long), 1, api.ErrLong},                           // likewise
		{join(run(0, 5), same), 1, api.ErrLong},                           // likewise
		{join(run(0, 5), []byte{0}, wrong, []byte{0x80}), 2, api.ErrForm}, // a number can't be, and bytes are left
	} {
		wantGetErr(t, x.b, x.n, x.e)
	}
}

// wantAny looks whether Get answers as the document says of any bytes.
func wantAny(t *testing.T, b []byte, n int) {
	t.Helper()
	want, e := read(b, n)
	if e != api.OK {
		wantGetErr(t, b, n, e)
		return
	}
	both(t, want, b)
}

// All bytes up to two, for all counts that they may have, and some around them.
func TestGetAnyBytes(t *testing.T) {
	for n := -1; n < 4; n++ {
		wantAny(t, nil, n)
		for v := range 1 << 8 {
			wantAny(t, []byte{byte(v)}, n)
			wantAny(t, []byte{byte(v), 5}, v+n)
		}
		for v := range 1 << 16 {
			wantAny(t, []byte{byte(v), byte(v >> 8)}, n)
		}
	}
}

// Up to six of the bytes at which something changes, for all counts that they
// may have.
func TestGetEdgeBytes(t *testing.T) {
	some := []byte{0, 1, 2, 0x7f, 0x80, 0x81}
	for size, k := 0, 1; size < 7; size, k = size+1, k*len(some) {
		for v := range k {
			b := make([]byte, size)
			for i := range b {
				b[i] = some[v%len(some)]
				v /= len(some)
			}
			for n := range 5 {
				wantAny(t, b, n)
			}
			for n := 127; n < 132; n++ {
				wantAny(t, b, n)
			}
		}
	}
}

// Bytes of which one is turned, left out, or put in, at each place.
func TestGetTurnedBytes(t *testing.T) {
	l := slices.Concat(often(5, 3), []int64{0, -1, 0}, often(300, 129), []int64{math.MinInt64, math.MaxInt64, 64, 64})
	b := form(l)
	for i := range b {
		for n := len(l) - 1; n < len(l)+2; n++ {
			for v := range 1 << 8 {
				turned := bytes.Clone(b)
				turned[i] = byte(v)
				wantAny(t, turned, n)
				wantAny(t, slices.Insert(bytes.Clone(b), i, byte(v)), n)
			}
			wantAny(t, slices.Delete(bytes.Clone(b), i, i+1), n)
		}
	}
}

// P9.2

func TestPutIsRead(t *testing.T) {
	lists := [][]int64{nil, edges(), slices.Sorted(slices.Values(edges()))}
	for _, n := range []int{0, 1, 2, 3, 100, 2000, api.MaxRows} {
		lists = append(lists, full(n)...)
	}
	for _, l := range lists {
		b, e := runs.Put(l)
		if e != api.OK {
			t.Fatalf("%d numbers %.20d: error %d", len(l), l, e)
		}
		wantGet(t, b, len(l), l)
	}
}

// All lists of up to seven of three numbers.
func TestAllShortLists(t *testing.T) {
	some := []int64{0, -1, math.MaxInt64}
	seen := map[string]int{}
	lists := 0
	for size, k := 0, 1; size < 8; size, k = size+1, k*len(some) {
		for v := range k {
			l := make([]int64, size)
			for i := range l {
				l[i] = some[v%len(some)]
				v /= len(some)
			}
			b := form(l)
			both(t, l, b)
			seen[string(b)]++
			lists++
		}
	}
	if len(seen) != lists {
		t.Fatalf("%d lists, %d forms", lists, len(seen))
	}
}

func TestReadIsPut(t *testing.T) {
	for k := range 3000 {
		var b []byte
		n := 0
		for i := range k % 17 {
			less := (k + 3*i) * 5 % 400
			b = append(b, run(uint64(less), int64(k*31+i*7-4000)<<(k%50))...)
			n += less + 1
		}
		l, e := runs.Get(b, n)
		if e != api.OK || len(l) != n {
			t.Fatalf("%d of %x: %d numbers, error %d", n, b, len(l), e)
		}
		wantPut(t, l, b)
		wantCount(t, l, k%17)
	}
}

// Memory (R4) and one answer (R7).

func TestPutLeavesWhatIsHandedIn(t *testing.T) {
	room := mixed(900, 20)
	l := room[300:600]
	kept := slices.Clone(room)
	want := form(l)
	b, _ := runs.Put(l)
	c, _ := runs.Put(l)
	wantCount(t, l, count(l))
	if !slices.Equal(room, kept) {
		t.Fatal("the list isn't what it was")
	}
	for i := range b {
		b[i] ^= 0xff
	}
	_ = append(b, 1, 2, 3)
	if !bytes.Equal(c, want) || !slices.Equal(room, kept) {
		t.Fatal("answers share memory")
	}
	wantPut(t, l, want)
	clear(l)
	if !bytes.Equal(c, want) {
		t.Fatal("the answer changed with the list")
	}
	wantPut(t, l, form(make([]int64, 300)))
}

// What lies behind a list in its memory isn't read: it would make its last run
// longer.
func TestPutNotBehind(t *testing.T) {
	room := often(5, 300)
	for n := range 300 {
		wantPut(t, room[:n], form(often(5, n)))
		wantPut(t, room[300-n:], form(often(5, n)))
		wantCount(t, room[:n], min(n, 1))
	}
}

// What lies behind the bytes in their memory isn't read: it would make right
// what is too short.
func TestGetLeavesWhatIsHandedIn(t *testing.T) {
	want := mixed(900, 20)
	room := join(form(want), run(0, want[899]+1), run(4, want[899]))
	kept := bytes.Clone(room)
	b := room[:len(form(want))]
	l, _ := runs.Get(b, len(want))
	m, _ := runs.Get(b, len(want))
	wantGetErr(t, b, len(want)+1, api.ErrShort)
	wantGetErr(t, b[:len(b)-1], len(want), api.ErrShort)
	if !bytes.Equal(room, kept) {
		t.Fatal("the bytes aren't what they were")
	}
	clear(l)
	_ = append(l, 1, 2, 3)
	if !slices.Equal(m, want) || !bytes.Equal(room, kept) {
		t.Fatal("answers share memory")
	}
	clear(b)
	if !slices.Equal(m, want) {
		t.Fatal("the answer changed with the bytes")
	}
}

// An answer hangs on nothing that was asked ahead of it, an error least of all.
func TestOneAnswer(t *testing.T) {
	l := mixed(500, 10)
	b := form(l)
	for range 3 {
		both(t, l, b)
		wantGetErr(t, b, len(l)+1, api.ErrShort)
		both(t, nil, nil)
		wantGetErr(t, b, -1, api.ErrArg)
		wantGetErr(t, []byte{0x80, 0}, 1, api.ErrForm)
		wantGetErr(t, run(1, l[0]), 1, api.ErrRange)
		wantGetErr(t, join(run(0, l[0]), run(0, l[0])), 2, api.ErrForm)
		wantGetErr(t, append(bytes.Clone(b), 0), len(l), api.ErrLong)
		runs.Put(make([]int64, api.MaxRows+1))
	}
}
