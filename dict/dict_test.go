package dict_test

import (
	"bytes"
	"encoding/binary"
	"math"
	"math/bits"
	"slices"
	"testing"

	"estreat/api"
	"estreat/dict"
)

const least, most = math.MinInt64, math.MaxInt64

// edges are the numbers at which something changes: 0, the least and the
// greatest one, and those around each power of two, on both sides of 0.
func edges() []int64 {
	l := []int64{0, -1, 1, 300, -300, least, least + 1, most, most - 1}
	for i := range 63 {
		p := int64(1) << i
		l = append(l, p-2, p-1, p, p+1, -p-2, -p-1, -p, -p+1)
	}
	return l
}

// often is n times v.
func often(v int64, n int) []int64 {
	return slices.Repeat([]int64{v}, n)
}

// rising is n numbers from a first one on, each a step above the one ahead;
// they go round where they run over.
func rising(first, step int64, n int) []int64 {
	l := make([]int64, n)
	for i := range l {
		l[i] = first + step*int64(i)
	}
	return l
}

// chance is a number that looks like any other, the same at each call.
func chance(i int) uint64 {
	v := uint64(i+1) * 6364136223846793005
	v ^= v >> 29
	v *= 2862933555777941757
	return v ^ v>>32
}

// some is k numbers that are all unlike, in no order, of any size.
func some(k int) []int64 {
	l := make([]int64, k)
	for i := range l {
		l[i] = int64(chance(i)) >> (i % 40)
	}
	for seen, i := map[int64]bool{}, 0; i < k; i++ {
		for seen[l[i]] {
			l[i] += 1 << 45
		}
		seen[l[i]] = true
	}
	return l
}

// mixed is n numbers, up and down, out of k that are unlike; each of these is
// there, if n is k or more.
func mixed(n, k int) []int64 {
	from := some(k)
	l := make([]int64, n)
	for i := range l {
		at := i
		if i >= k {
			at = int(chance(i) % uint64(k))
		}
		l[n-1-i] = from[at]
	}
	return l
}

// full is lists of n numbers of all kinds.
func full(n int) [][]int64 {
	l := [][]int64{make([]int64, n), often(-1, n), often(least, n), often(most, n)}
	l = append(l, rising(10, 1, n), rising(-5, -1, n), rising(most-3, 1, n), rising(7, 1<<40+9, n), rising(0, least, n))
	l = append(l, rising(most, -1, n), rising(least, 1, n), rising(300, -7, n))
	turned := make([]int64, n)
	for i := range turned {
		turned[i] = []int64{least, most}[i%2]
	}
	l = append(l, turned)
	for _, k := range []int{1, 2, 3, 4, 5, 17, 300, n} {
		l = append(l, mixed(n, max(k, 1)))
	}
	return l
}

// listed is the list of l by the words of the document.
func listed(l []int64) []int64 {
	return slices.Compact(slices.Sorted(slices.Values(l)))
}

// widthOf is the least width that the places of a list of so many go into.
func widthOf(count int) int {
	width := 0
	for 1<<width < count {
		width++
	}
	return width
}

// packed is numbers packed in a width, bit by bit.
func packed(l []uint64, width int) []byte {
	b := make([]byte, (len(l)*width+7)/8)
	at := 0
	for _, v := range l {
		for k := range width {
			b[at/8] |= byte(v>>k&1) << (at % 8)
			at++
		}
	}
	return b
}

// short is a short number.
func short(v uint64) []byte {
	return binary.AppendUvarint(nil, v)
}

// head is the form of a list, without what is behind it.
func head(list []int64) []byte {
	b := short(uint64(len(list)))
	for i, v := range list {
		if i == 0 {
			b = binary.AppendVarint(b, v)
			continue
		}
		b = append(b, short(uint64(v)-uint64(list[i-1])-1)...)
	}
	return b
}

// laid is the parts of a form, whether they may be together or not.
func laid(list []int64, width int, behind []byte) []byte {
	return join(head(list), []byte{byte(width)}, behind)
}

// at is the form of these places in a list, in the width that it needs.
func at(list []int64, places ...uint64) []byte {
	width := widthOf(len(list))
	return laid(list, width, packed(places, width))
}

// placesOf is the place in the list of each number of l.
func placesOf(l []int64) []uint64 {
	list := listed(l)
	places := make([]uint64, len(l))
	for i, v := range l {
		place, _ := slices.BinarySearch(list, v)
		places[i] = uint64(place)
	}
	return places
}

// wide is the form of l, but with that width, whatever the least one is.
func wide(l []int64, width int) []byte {
	return laid(listed(l), width, packed(placesOf(l), width))
}

// form is the form of l by the words of the document.
func form(l []int64) []byte {
	return wide(l, widthOf(len(listed(l))))
}

// read is what Get answers by the words of the document.
func read(b []byte, n int) ([]int64, api.Errno) {
	if n < 0 || n > api.MaxRows {
		return nil, api.ErrArg
	}
	list, b, e := readList(b, n)
	if e != api.OK {
		return nil, e
	}
	places, e := readPlaces(b, n, len(list))
	if e != api.OK {
		return nil, e
	}
	l := make([]int64, n)
	there := map[uint64]bool{}
	for i, place := range places {
		if place >= uint64(len(list)) {
			return nil, api.ErrRange
		}
		l[i] = list[place]
		there[place] = true
	}
	if len(there) < len(list) {
		return nil, api.ErrForm
	}
	return l, api.OK
}

// readList is the list that b begins with, and the bytes behind it.
func readList(b []byte, n int) ([]int64, []byte, api.Errno) {
	count, b, e := readShort(b)
	if e != api.OK {
		return nil, nil, e
	}
	if count > uint64(n) {
		return nil, nil, api.ErrRange
	}
	const turn = 1 << 63 // so that they are ordered without a sign
	var list []int64
	for i := range count {
		var v, over uint64
		if v, b, e = readShort(b); e != api.OK {
			return nil, nil, e
		}
		if i == 0 {
			v = uint64(unzig(v)) ^ turn
		} else if v, over = bits.Add64(v, uint64(list[i-1])^turn, 1); over > 0 {
			return nil, nil, api.ErrForm
		}
		list = append(list, int64(v^turn))
	}
	return list, b, api.OK
}

func unzig(v uint64) int64 {
	if v%2 == 1 {
		return -int64(v/2) - 1
	}
	return int64(v / 2)
}

// readShort is the short number that b begins with, and the bytes behind it.
func readShort(b []byte) (uint64, []byte, api.Errno) {
	var v uint64
	for i, c := range b {
		if i > 0 && c == 0 || i == 9 && c%128 > 1 || i == 10 {
			return 0, nil, api.ErrForm
		}
		v |= uint64(c%128) << (7 * i)
		if c < 128 {
			return v, b[i+1:], api.OK
		}
	}
	return 0, nil, api.ErrShort
}

// readPlaces is the n places of b, a width and what is packed in it.
func readPlaces(b []byte, n, count int) ([]uint64, api.Errno) {
	if len(b) == 0 {
		return nil, api.ErrShort
	}
	width := int(b[0])
	b = b[1:]
	if width != widthOf(count) {
		return nil, api.ErrForm
	}
	size := (n*width + 7) / 8
	if len(b) < size {
		return nil, api.ErrShort
	}
	if len(b) > size {
		return nil, api.ErrLong
	}
	l := make([]uint64, n)
	for at := range 8 * size {
		bit := uint64(b[at/8] >> (at % 8) & 1)
		if at >= n*width {
			if bit == 1 {
				return nil, api.ErrForm
			}
			continue
		}
		l[at/width] |= bit << (at % width)
	}
	return l, api.OK
}

// join is all parts, one behind the other, in new memory.
func join(parts ...[]byte) []byte {
	return bytes.Join(parts, nil)
}

// wantList looks whether want is the list of l.
func wantList(t *testing.T, l, want []int64) {
	t.Helper()
	if got := dict.List(l); !slices.Equal(got, want) {
		t.Fatalf("%d numbers %.20d: list %.20d, not %.20d", len(l), l, got, want)
	}
}

// wantPut looks whether want is what Put answers.
func wantPut(t *testing.T, l []int64, want []byte) {
	t.Helper()
	b, e := dict.Put(l)
	if e != api.OK || !bytes.Equal(b, want) {
		t.Fatalf("%d numbers %.20d: %.40x, error %d, not %.40x", len(l), l, b, e, want)
	}
}

func wantGet(t *testing.T, b []byte, n int, want []int64) {
	t.Helper()
	l, e := dict.Get(b, n)
	if e != api.OK || len(l) != n || !slices.Equal(l, want) {
		t.Fatalf("%d of %.40x: %d numbers %.20d, error %d, not %.20d", n, b, len(l), l, e, want)
	}
}

func wantGetErr(t *testing.T, b []byte, n int, want api.Errno) {
	t.Helper()
	if l, e := dict.Get(b, n); e != want || len(l) != 0 {
		t.Fatalf("%d of %d bytes %.40x: %d numbers %.20d, error %d, not %d", n, len(b), b, len(l), l, e, want)
	}
}

// both looks whether l is put as b and b is read as l.
func both(t *testing.T, l []int64, b []byte) {
	t.Helper()
	wantPut(t, l, b)
	wantGet(t, b, len(l), l)
}

// The document's example.

func TestExample(t *testing.T) {
	wantList(t, []int64{7, 5, 7}, []int64{5, 7})
	both(t, []int64{7, 5, 7}, []byte{0x02, 0x0a, 0x01, 0x01, 0x05})
}

// P11.1: List

func TestListOfNone(t *testing.T) {
	for _, l := range [][]int64{nil, {}, make([]int64, 0, 10), often(1, 3)[:0]} {
		wantList(t, l, nil)
	}
}

func TestListOfOne(t *testing.T) {
	for _, v := range edges() {
		wantList(t, []int64{v}, []int64{v})
		for _, n := range []int{2, 3, 100} {
			wantList(t, often(v, n), []int64{v})
		}
	}
	wantList(t, often(5, 3*api.MaxRows), []int64{5})
}

func TestListOfTwo(t *testing.T) {
	l := edges()
	for _, a := range l {
		for _, b := range l {
			want := []int64{min(a, b), max(a, b)}
			if a == b {
				want = want[:1]
			}
			wantList(t, []int64{a, b}, want)
			wantList(t, []int64{a, b, a}, want)
		}
	}
}

func TestListOfMany(t *testing.T) {
	for _, x := range [][2][]int64{
		{{1, 2, 3}, {1, 2, 3}}, {{3, 2, 1}, {1, 2, 3}}, {{2, 3, 1}, {1, 2, 3}}, {{3, 1, 2, 2, 1, 3, 3}, {1, 2, 3}},
		{{0, -1, 1, -2, 2}, {-2, -1, 0, 1, 2}}, {{-300, 300, -299, 299, 0}, {-300, -299, 0, 299, 300}},
		{{most, least}, {least, most}}, {{least, most}, {least, most}}, {{most, 0, least, -1, most}, {least, -1, 0, most}},
		{{most, most - 1, least + 1, least}, {least, least + 1, most - 1, most}},
	} {
		wantList(t, x[0], x[1])
	}
	wantList(t, rising(-7, 3, 500), rising(-7, 3, 500))
	down := rising(-7, 3, 500)
	slices.Reverse(down)
	wantList(t, down, rising(-7, 3, 500))
	wantList(t, edges(), listed(edges()))
	for _, n := range []int{3, 4, 100, 2000} {
		for _, l := range full(n) {
			wantList(t, l, listed(l))
		}
	}
}

// List has no limit, of its numbers or of those that are unlike.
func TestListBeyondMost(t *testing.T) {
	for _, n := range []int{api.MaxRows - 1, api.MaxRows, api.MaxRows + 1, 2*api.MaxRows + 5} {
		wantList(t, rising(least, 5, n), rising(least, 5, n))
		for _, l := range [][]int64{rising(0, -1, n), mixed(n, 300), mixed(n, n)} {
			wantList(t, l, listed(l))
		}
	}
}

// P11.1: Put

func TestNone(t *testing.T) {
	for _, l := range [][]int64{nil, {}, make([]int64, 0, 10), often(1, 3)[:0]} {
		both(t, l, []byte{0, 0})
	}
}

func TestOne(t *testing.T) {
	for _, x := range []struct {
		n int64
		b []byte
	}{
		{0, []byte{1, 0, 0}}, {-1, []byte{1, 1, 0}}, {1, []byte{1, 2, 0}}, {-2, []byte{1, 3, 0}}, {10, []byte{1, 0x14, 0}},
		{63, []byte{1, 0x7e, 0}}, {-64, []byte{1, 0x7f, 0}}, {64, []byte{1, 0x80, 1, 0}}, {-65, []byte{1, 0x81, 1, 0}}, {300, []byte{1, 0xd8, 4, 0}},
		{most, []byte{1, 0xfe, 255, 255, 255, 255, 255, 255, 255, 255, 1, 0}},
		{least, []byte{1, 0xff, 255, 255, 255, 255, 255, 255, 255, 255, 1, 0}},
	} {
		both(t, []int64{x.n}, x.b)
	}
	for _, v := range edges() {
		both(t, []int64{v}, form([]int64{v}))
	}
}

// Numbers that are all the same have a width of 0, and nothing behind it.
func TestAllTheSame(t *testing.T) {
	for _, v := range edges() {
		for _, n := range []int{2, 3, 8, 9, 10, 129, 1000} {
			both(t, often(v, n), join([]byte{1}, binary.AppendVarint(nil, v), []byte{0}))
		}
	}
	for _, v := range []int64{0, 5, least, most} {
		for _, n := range []int{5000, api.MaxRows - 1, api.MaxRows} {
			both(t, often(v, n), join([]byte{1}, binary.AppendVarint(nil, v), []byte{0}))
		}
	}
}

func TestTwo(t *testing.T) {
	const ff = 255
	for _, x := range []struct {
		l []int64
		b []byte
	}{
		{[]int64{0, 1}, []byte{2, 0, 0, 1, 2}}, {[]int64{1, 0}, []byte{2, 0, 0, 1, 1}}, {[]int64{-1, 0}, []byte{2, 1, 0, 1, 2}}, {[]int64{0, -1}, []byte{2, 1, 0, 1, 1}},
		{[]int64{5, 7}, []byte{2, 0x0a, 1, 1, 2}}, {[]int64{-5, 5}, []byte{2, 9, 9, 1, 2}}, {[]int64{0, 128}, []byte{2, 0, 0x7f, 1, 2}}, {[]int64{0, 129}, []byte{2, 0, 0x80, 1, 1, 2}},
		{[]int64{300, -300}, []byte{2, 0xd7, 4, 0xd7, 4, 1, 1}},
		{[]int64{0, most}, []byte{2, 0, 0xfe, ff, ff, ff, ff, ff, ff, ff, 0x7f, 1, 2}},
		{[]int64{-1, most}, []byte{2, 1, 0xff, ff, ff, ff, ff, ff, ff, ff, 0x7f, 1, 2}},
		{[]int64{-2, most}, []byte{2, 3, 0x80, 0x80, 0x80, 0x80, 0x80, 0x80, 0x80, 0x80, 0x80, 1, 1, 2}},
		{[]int64{0, least}, []byte{2, ff, ff, ff, ff, ff, ff, ff, ff, ff, 1, ff, ff, ff, ff, ff, ff, ff, ff, 0x7f, 1, 1}},
		{[]int64{least, least + 1}, []byte{2, ff, ff, ff, ff, ff, ff, ff, ff, ff, 1, 0, 1, 2}},
		{[]int64{most, most - 1}, []byte{2, 0xfc, ff, ff, ff, ff, ff, ff, ff, ff, 1, 0, 1, 1}},
		{[]int64{least, most}, []byte{2, ff, ff, ff, ff, ff, ff, ff, ff, ff, 1, 0xfe, ff, ff, ff, ff, ff, ff, ff, ff, 1, 1, 2}},
		{[]int64{most, least}, []byte{2, ff, ff, ff, ff, ff, ff, ff, ff, ff, 1, 0xfe, ff, ff, ff, ff, ff, ff, ff, ff, 1, 1, 1}},
	} {
		both(t, x.l, x.b)
	}
	l := edges()
	for i, a := range l {
		for _, b := range l[i%5:] {
			both(t, []int64{a, b}, form([]int64{a, b}))
		}
	}
}

func TestMany(t *testing.T) {
	both(t, []int64{3, 3, 1, 3, 1, 1, 1, 3}, []byte{2, 2, 1, 1, 0x8b})
	both(t, []int64{3, 3, 1, 3, 1, 1, 1, 3, 3}, []byte{2, 2, 1, 1, 0x8b, 1})
	both(t, []int64{1, 2, 3}, []byte{3, 2, 0, 0, 2, 0x24})
	both(t, []int64{3, 2, 1}, []byte{3, 2, 0, 0, 2, 0x06})
	both(t, []int64{-1, 300, 0, -1, 300}, []byte{3, 1, 0, 0xab, 2, 2, 0x18, 2})
	both(t, []int64{4, 3, 2, 1, 0}, []byte{5, 0, 0, 0, 0, 0, 3, 0x9c, 0x02})
	both(t, []int64{least, most, least, 0}, form([]int64{least, most, least, 0}))
	both(t, edges(), form(edges()))
	for _, n := range []int{3, 4, 5, 8, 9, 10, 17, 100, 1000} {
		for _, l := range full(n) {
			both(t, l, form(l))
		}
	}
}

// A list of 2, 4, 8 .. numbers has the width of one of less, one of 3, 5, 9 ..
// a greater one: where each number stands once, and where they stand often.
func TestEachWidth(t *testing.T) {
	for width := 1; width < 17; width++ {
		for _, count := range []int{1<<(width-1) + 1, 1<<width - 1, 1 << width} {
			if count <= 1<<(width-1) {
				continue
			}
			for _, list := range [][]int64{rising(0, 1, count), rising(least, 3, count), listed(some(count))} {
				b := laid(list, width, packed(rangeOf(count), width))
				both(t, list, b)
				if len(b) != len(head(list))+1+(count*width+7)/8 {
					t.Fatalf("%d numbers: %d bytes", count, len(b))
				}
				down := slices.Clone(list)
				slices.Reverse(down)
				both(t, down, form(down))
				if count < api.MaxRows {
					both(t, append(down, list[0]), form(append(down, list[0])))
				}
			}
		}
	}
	l := mixed(5000, 256)
	both(t, l, wide(l, 8))
	l = mixed(5000, 257)
	both(t, l, wide(l, 9))
}

// rangeOf is the numbers from 0 on, below n.
func rangeOf(n int) []uint64 {
	l := make([]uint64, n)
	for i := range l {
		l[i] = uint64(i)
	}
	return l
}

// Neighbours in a list are as near as can be, as far as can be, and around each
// size of a short number.
func TestNeighbours(t *testing.T) {
	for _, first := range edges() {
		for _, apart := range edges() {
			for _, far := range []uint64{uint64(apart), uint64(apart) + 1<<63} {
				room := uint64(most) - uint64(first)
				if far == 0 || far > room {
					continue
				}
				l := []int64{first + int64(far), first}
				b := join([]byte{2}, binary.AppendVarint(nil, first), short(far-1), []byte{1, 1})
				both(t, l, b)
			}
		}
	}
	both(t, []int64{most, least, -1, 0}, at([]int64{least, -1, 0, most}, 3, 0, 1, 2))
	both(t, rising(least, 1, 300), at(rising(least, 1, 300), rangeOf(300)...))
	both(t, rising(most-299, 1, 300), at(rising(most-299, 1, 300), rangeOf(300)...))
}

func TestMost(t *testing.T) {
	for _, n := range []int{api.MaxRows - 1, api.MaxRows} {
		for _, l := range full(n) {
			both(t, l, form(l))
		}
	}
	l := rising(-1, 1, api.MaxRows)
	behind := make([]byte, 0, 2*api.MaxRows)
	for i := range api.MaxRows {
		behind = append(behind, byte(i), byte(i>>8))
	}
	both(t, l, join([]byte{0x80, 0x80, 4, 1}, make([]byte, api.MaxRows-1), []byte{16}, behind))
}

func TestBeyondMost(t *testing.T) {
	for _, n := range []int{api.MaxRows + 1, api.MaxRows + 2, 2 * api.MaxRows, 3*api.MaxRows + 5} {
		for _, l := range [][]int64{make([]int64, n), often(most, n), rising(10, 1, n), rising(0, least, n), mixed(n, 5), mixed(n, api.MaxRows)} {
			if b, e := dict.Put(l); e != api.ErrLimit || len(b) != 0 {
				t.Fatalf("%d numbers: %d bytes, error %d", n, len(b), e)
			}
		}
	}
}

// P11.1: Get

// ErrArg comes ahead of all that is wrong with the bytes, and of bytes that are
// right but for how many numbers they have.
func TestGetWrongCount(t *testing.T) {
	all := [][]byte{
		nil, {}, {0}, {0x80}, {0x80, 0}, {0, 0}, {0, 65}, {1, 10, 0}, {1, 10, 1}, {2, 0x0a, 1, 1, 5}, {2, 0, 0x80, 0}, bytes.Repeat([]byte{0xff}, 20),
		form(rising(5, 1, api.MaxRows+1)), form(rising(5, 1, api.MaxRows+2)), form(often(5, api.MaxRows+1)), form(mixed(api.MaxRows+1, 64)),
	}
	for _, n := range []int{-1, -2, -api.MaxRows, -1 << 32, math.MinInt, math.MinInt + 1, api.MaxRows + 1, api.MaxRows + 2, 2 * api.MaxRows, 1 << 32, 1<<32 + 1, 1 << 62, math.MaxInt - 1, math.MaxInt} {
		for _, b := range all {
			wantGetErr(t, b, n, api.ErrArg)
		}
	}
}

func TestGetNone(t *testing.T) {
	wantGet(t, []byte{0, 0}, 0, nil)
	for _, x := range []struct {
		b []byte
		e api.Errno
	}{
		{nil, api.ErrShort}, {[]byte{}, api.ErrShort}, {[]byte{0}, api.ErrShort}, {[]byte{0x80}, api.ErrShort},
		{[]byte{0, 0, 0}, api.ErrLong}, {[]byte{0, 0, 1}, api.ErrLong}, {[]byte{0, 0, 0xff, 0x80}, api.ErrLong}, {make([]byte, 1000), api.ErrLong},
		{[]byte{0, 1}, api.ErrForm}, {[]byte{0, 1, 0}, api.ErrForm}, {[]byte{0, 64}, api.ErrForm}, {[]byte{0, 65}, api.ErrForm}, {[]byte{0, 255, 1}, api.ErrForm}, {[]byte{0x80, 0}, api.ErrForm},
		{[]byte{1}, api.ErrRange}, {[]byte{1, 10, 0}, api.ErrRange}, {[]byte{2, 0x0a, 1, 1, 5}, api.ErrRange}, {[]byte{1, 0x80, 0}, api.ErrRange},
	} {
		wantGetErr(t, x.b, 0, x.e)
	}
}

// A list without numbers has no place for those that are asked for.
func TestGetSomeOfNone(t *testing.T) {
	for _, n := range []int{1, 2, 3, 8, 9, 1000, api.MaxRows} {
		wantGetErr(t, []byte{0, 0}, n, api.ErrRange)
		wantGetErr(t, []byte{0, 0, 0}, n, api.ErrLong)
		wantGetErr(t, []byte{0}, n, api.ErrShort)
		for width := 1; width < 256; width++ {
			wantGetErr(t, []byte{0, byte(width)}, n, api.ErrForm)
			wantGetErr(t, append([]byte{0, byte(width)}, make([]byte, (n%1001*width+7)/8)...), n, api.ErrForm)
		}
	}
}

// Bytes that end anywhere are too few: in the list's count, between its numbers
// and in them, ahead of the width, and in the places.
func TestGetShort(t *testing.T) {
	lists := [][]int64{{5}, {least}, {7, 5, 7}, edges(), mixed(700, 600), mixed(9, 2), mixed(700, 3), rising(-1, -300, 200), {least, most}, {most, 0, least}}
	for _, l := range lists {
		b := form(l)
		for end := range len(b) {
			wantGetErr(t, b[:end], len(l), api.ErrShort)
			wantGetErr(t, b[:end], api.MaxRows, api.ErrShort)
		}
		wantGet(t, b, len(l), l)
	}
	for _, n := range []int{0, 1, 2, 9, api.MaxRows} {
		for _, part := range [][]byte{nil, {}, {0x80}, {0xff}, {0xff, 0xff}, bytes.Repeat([]byte{0x80}, 9), bytes.Repeat([]byte{0x80}, 10), append(bytes.Repeat([]byte{0xff}, 9), 0x81)} {
			wantGetErr(t, part, n, api.ErrShort)
			if n > 0 {
				wantGetErr(t, join([]byte{1}, part), n, api.ErrShort)
			}
			if n > 1 {
				wantGetErr(t, join([]byte{2, 0}, part), n, api.ErrShort)
				wantGetErr(t, join([]byte{2, 0x0a, 1}, nil), n, api.ErrShort)
				wantGetErr(t, join([]byte{2, 0x0a, 1, 1}, nil), n, api.ErrShort)
			}
		}
	}
	for _, l := range full(api.MaxRows)[4:] {
		b := form(l)
		for _, end := range []int{0, 1, 2, 3, len(b) / 3, len(b) / 2, len(b) - 1} {
			wantGetErr(t, b[:end], len(l), api.ErrShort)
		}
	}
}

// Of each width there is, places that lack bytes or have too many.
func TestGetSizes(t *testing.T) {
	for width := range 11 {
		list := rising(3, 4, 1<<width)
		for _, n := range []int{1 << width, 1<<width + 1, 1<<width + 9} {
			size := (n*width + 7) / 8
			for _, c := range []byte{0, 1, 255} {
				for _, behind := range []int{size - 1, size - 2, size / 2, 1, 0} {
					if behind >= 0 && behind < size {
						wantGetErr(t, laid(list, width, bytes.Repeat([]byte{c}, behind)), n, api.ErrShort)
					}
				}
				for _, behind := range []int{size + 1, size + 2, size + 8, 2*size + 1, size + 1000} {
					wantGetErr(t, laid(list, width, bytes.Repeat([]byte{c}, behind)), n, api.ErrLong)
				}
			}
			l := slices.Concat(list, often(3, n-len(list)))
			wantGet(t, form(l), n, l)
			for _, left := range [][]byte{{0}, {1}, {0x80}, {0, 0}, make([]byte, 1000)} {
				wantGetErr(t, join(form(l), left), n, api.ErrLong)
			}
		}
	}
	l := rising(0, 1, api.MaxRows)
	wantGetErr(t, join(form(l), []byte{0}), len(l), api.ErrLong)
}

// bad are short numbers that can't be: one that is 0 behind a byte that tells of
// it, one above 64 bits, and one of more than ten bytes.
func bad() [][]byte {
	var l [][]byte
	for n := 1; n < 10; n++ {
		l = append(l, append(bytes.Repeat([]byte{0x80}, n), 0), append(bytes.Repeat([]byte{0xff}, n), 0))
	}
	for _, c := range []byte{2, 3, 4, 0x40, 0x7e, 0x7f, 0x82, 0x83, 0xfe, 0xff} {
		l = append(l, append(bytes.Repeat([]byte{0x80}, 9), c), append(bytes.Repeat([]byte{0xff}, 9), c))
	}
	for _, c := range []byte{0, 1, 0x7f, 0x80, 0x81, 0xff} {
		l = append(l, append(bytes.Repeat([]byte{0x80}, 10), c), append(bytes.Repeat([]byte{0xff}, 9), 0x81, c))
	}
	return l
}

// A short number that can't be, as the count and at each place of the list, is
// told ahead of all that is wrong behind it.
func TestGetBadNumbers(t *testing.T) {
	const places = 20
	for _, wrong := range bad() {
		for _, left := range [][]byte{nil, {0}, {65}, {255}, {0, 0}, {1, 1}, {0x80}, {0, 5, 1, 1}, wrong, make([]byte, 100)} {
			for _, n := range []int{0, 1, 2, 9, api.MaxRows} {
				wantGetErr(t, join(wrong, left), n, api.ErrForm)
			}
			for at := range places {
				list := head(rising(-7, 2, places))[:1+at] // the count and as many numbers, of a byte each
				for _, n := range []int{places, places + 1, api.MaxRows} {
					wantGetErr(t, join(list, wrong, left), n, api.ErrForm)
				}
				wantGetErr(t, join(list, wrong, left), places-1, api.ErrRange)
			}
		}
	}
}

// A list that has more numbers than are asked for, by one or by many, is told
// behind its count, whatever comes then.
func TestGetCountRange(t *testing.T) {
	for _, n := range []int{0, 1, 2, 3, 9, 126, 127, 128, 1000, api.MaxRows - 1, api.MaxRows} {
		counts := []uint64{uint64(n) + 1, uint64(n) + 2, 2*uint64(n) + 1, uint64(n) + 1<<16, 1<<17 + 1, 1<<31 + uint64(n), 1<<32 + uint64(n), 1<<63 - 1, 1 << 63, 1<<63 + uint64(n), math.MaxUint64 - 1, math.MaxUint64}
		for _, count := range counts {
			for _, left := range [][]byte{nil, {0}, {10, 0, 0}, {0x80}, {0x80, 0}, {65}, bytes.Repeat([]byte{255}, 20), make([]byte, 5000)} {
				wantGetErr(t, join(short(count), left), n, api.ErrRange)
			}
		}
		l := rising(5, 1, n+1)
		wantGetErr(t, form(l), n, api.ErrRange)
		wantGetErr(t, form(some(n+1)), n, api.ErrRange)
	}
}

// above is a list of these numbers, without a count, of which the last one is so
// much above the one ahead, less 1, wherever that goes.
func above(list []int64, part uint64) []byte {
	return join(head(list)[1:], short(part))
}

// A number that goes round, onto the one ahead or below it, is told where it
// stands: ahead of what is behind it.
func TestGetGoesRound(t *testing.T) {
	for _, v := range edges() {
		room := uint64(most) - uint64(v)
		for _, left := range [][]byte{nil, {0}, {1, 2}, {2, 1}, {65}, {255}, {0x80, 0}, {0, 0, 0, 0}, make([]byte, 100), bytes.Repeat([]byte{255}, 20)} {
			for _, part := range []uint64{math.MaxUint64, math.MaxUint64 - 1, room, room + 1, room + 2, 1<<63 + room/2} {
				for _, count := range []byte{2, 3, 9} {
					if part >= room {
						wantGetErr(t, join([]byte{count}, above([]int64{v}, part), left), 9, api.ErrForm)
					}
				}
			}
		}
		if room > 0 {
			b := join([]byte{2}, above([]int64{v}, room-1), []byte{1, 2})
			wantGet(t, b, 2, []int64{v, most})
		}
	}
	for at := 1; at < 30; at++ {
		list := rising(-20, 1, at)
		for _, part := range []uint64{math.MaxUint64, math.MaxUint64 - 1, 1<<63 + 100, 1<<63 + 20} {
			for _, count := range []int{at + 1, at + 2, 40} {
				for _, left := range [][]byte{nil, {0}, {5, 255}, {0x80, 0}, make([]byte, 100)} {
					wantGetErr(t, join(short(uint64(count)), above(list, part), left), 40, api.ErrForm)
				}
			}
		}
	}
	list := rising(0, 1, api.MaxRows-1)
	wantGetErr(t, join(short(api.MaxRows), head(list)[3:], short(math.MaxUint64), []byte{16}, make([]byte, 2*api.MaxRows)), api.MaxRows, api.ErrForm)
}

// A width that isn't the least one, by one or by many, is told ahead of what is
// packed, whether that is right in its width or not.
func TestGetWidthForm(t *testing.T) {
	for _, k := range []int{1, 2, 3, 4, 5, 8, 9, 16, 17, 100, 256, 257} {
		list := listed(some(k))
		for width := range 256 {
			if width == widthOf(k) {
				continue
			}
			for _, n := range []int{k, k + 1, 300} {
				size := (n*width + 7) / 8
				for _, behind := range [][]byte{nil, {0}, make([]byte, size), make([]byte, size+1), bytes.Repeat([]byte{255}, size), make([]byte, (n*widthOf(k)+7)/8)} {
					wantGetErr(t, laid(list, width, behind), n, api.ErrForm)
				}
				if width > widthOf(k) && width <= 64 {
					wantGetErr(t, wide(slices.Concat(list, often(list[0], n-k)), width), n, api.ErrForm)
				}
			}
		}
	}
	l := rising(9, 1, api.MaxRows)
	for _, width := range []int{0, 15, 17, 64, 65} {
		wantGetErr(t, wide(l, width), len(l), api.ErrForm)
	}
}

// What is left of the last byte behind the last place is 0.
func TestGetLeftBits(t *testing.T) {
	for k := 2; k < 40; k++ {
		list := rising(3, 4, k)
		for n := k; n < k+9; n++ {
			l := slices.Concat(list, often(3, n-k))
			b := form(l)
			wantGet(t, b, n, l)
			for bit := n * widthOf(k) % 8; bit%8 > 0; bit++ {
				turned := bytes.Clone(b)
				turned[len(b)-1] |= 1 << bit
				wantGetErr(t, turned, n, api.ErrForm)
			}
		}
	}
	// Such a bit is told ahead of a place that isn't in the list.
	wantGetErr(t, laid([]int64{1, 2, 3}, 2, []byte{0x64}), 3, api.ErrForm)
	wantGetErr(t, laid([]int64{1, 2, 3}, 2, []byte{0x34}), 3, api.ErrRange)
	wantGetErr(t, laid([]int64{1, 2, 3}, 2, []byte{0x74}), 3, api.ErrForm)
	wantGetErr(t, laid([]int64{1, 2}, 1, []byte{0x04}), 2, api.ErrForm)
}

// A place that isn't in the list, the one behind the last or beyond it, first or
// last or between, is told ahead of a number that is at no place.
func TestGetPlaceRange(t *testing.T) {
	for k := 3; k < 70; k++ {
		list := rising(-9, 3, k)
		for _, wrong := range []uint64{uint64(k), uint64(k) + 1, 1<<widthOf(k) - 1} {
			if wrong < uint64(k) || wrong >= 1<<widthOf(k) {
				continue
			}
			for i := range k + 1 {
				wantGetErr(t, at(list, slices.Insert(rangeOf(k), i, wrong)...), k+1, api.ErrRange)
			}
			for i := range k {
				places := rangeOf(k)
				places[i] = wrong
				wantGetErr(t, at(list, places...), k, api.ErrRange)
			}
			wantGetErr(t, at(list, slices.Repeat([]uint64{wrong}, k)...), k, api.ErrRange)
		}
	}
	const k = 1<<15 + 1
	list := rising(0, 1, k)
	wantGet(t, at(list, rangeOf(k)...), k, list)
	wantGetErr(t, at(list, append(rangeOf(k), k)...), k+1, api.ErrRange)
	wantGetErr(t, at(list, append(rangeOf(k), 1<<16-1)...), k+1, api.ErrRange)
}

// A number of the list that is at no place: the first, the last, one between,
// more than one, and all but one.
func TestGetNoPlace(t *testing.T) {
	for k := 2; k < 70; k++ {
		list := rising(-9, 3, k)
		for i := range uint64(k) {
			places := rangeOf(k)
			places[i] = (i + 1) % uint64(k)
			wantGetErr(t, at(list, places...), k, api.ErrForm)
			places = append(places, places[i], places[0])
			wantGetErr(t, at(list, places...), len(places), api.ErrForm)
			wantGet(t, at(list, append(places, i)...), k+3, slices.Concat(numbers(list, places), list[i:i+1]))
			wantGetErr(t, at(list, slices.Repeat([]uint64{i}, k)...), k, api.ErrForm)
		}
	}
	list := rising(0, 1, api.MaxRows)
	for _, i := range []int{0, 1, 30000, api.MaxRows - 2, api.MaxRows - 1} {
		places := rangeOf(api.MaxRows)
		places[i] = 7777
		wantGetErr(t, at(list, places...), api.MaxRows, api.ErrForm)
	}
}

// numbers is those at these places of the list.
func numbers(list []int64, places []uint64) []int64 {
	var l []int64
	for _, place := range places {
		l = append(l, list[place])
	}
	return l
}

// Of several that hold, the first one read is told.
func TestGetFirstError(t *testing.T) {
	round := short(math.MaxUint64)
	for _, x := range []struct {
		what string
		b    []byte
		n    int
		e    api.Errno
	}{
		{"bad count, no more", []byte{0x80, 0}, 3, api.ErrForm},
		{"count above, bad number", []byte{4, 0x80, 0}, 3, api.ErrRange},
		{"count above, nothing behind", []byte{4}, 3, api.ErrRange},
		{"greatest count, number goes round", join(round, round, round), 3, api.ErrRange},
		{"bad first, then goes round", join([]byte{2, 0x80, 0}, round), 3, api.ErrForm},
		{"goes round, then nothing", join([]byte{3, 0}, round), 3, api.ErrForm},
		{"short in the second, wrong width not reached", []byte{3, 0, 0x80}, 3, api.ErrShort},
		{"goes round, then short", join([]byte{3, 0}, round, []byte{0x80}), 3, api.ErrForm},
		{"short number, though first can't be", []byte{3, 0x80}, 3, api.ErrShort},
		{"no width", []byte{2, 0, 0}, 3, api.ErrShort},
		{"wrong width, nothing behind", []byte{2, 0, 0, 2}, 3, api.ErrForm},
		{"wrong width, too many behind", []byte{2, 0, 0, 2, 0, 0, 0}, 3, api.ErrForm},
		{"too few, though places are out", []byte{3, 0, 0, 0, 2, 0xff}, 5, api.ErrShort},
		{"too many, though places are out", []byte{3, 0, 0, 0, 2, 0xff, 0xff}, 3, api.ErrLong},
		{"left bits, place out, number not there", []byte{3, 0, 0, 0, 2, 0xff}, 3, api.ErrForm},
		{"place out, number not there", []byte{3, 0, 0, 0, 2, 0x3f}, 3, api.ErrRange},
		{"number not there", []byte{3, 0, 0, 0, 2, 0x10}, 3, api.ErrForm},
		{"number not there, too many", []byte{3, 0, 0, 0, 2, 0x10, 0}, 3, api.ErrLong},
		{"all is right", []byte{3, 0, 0, 0, 2, 0x18}, 3, api.OK},
	} {
		if l, e := dict.Get(x.b, x.n); e != x.e || (e != api.OK && len(l) != 0) {
			t.Fatalf("%s: %d, error %d, not %d", x.what, l, e, x.e)
		}
	}
}

// wantAny looks whether Get answers what the words of the document say, and if
// that is numbers, whether they are put as they were.
func wantAny(t *testing.T, b []byte, n int) {
	t.Helper()
	want, e := read(b, n)
	if e != api.OK {
		wantGetErr(t, b, n, e)
		return
	}
	both(t, want, b)
}

// The form of some numbers is refused as that of others, or it is the form of
// another list: one of a single number, of as many as are asked for.
func TestGetOtherCounts(t *testing.T) {
	for _, l := range full(60) {
		b := form(l)
		for n := range 200 {
			wantAny(t, b, n)
		}
	}
	for n := 1; n < 20; n++ {
		wantGet(t, form(often(5, 9)), n, often(5, n))
	}
}

// All bytes up to two, for some counts.
func TestGetAnyBytes(t *testing.T) {
	for n := -1; n < 4; n++ {
		wantAny(t, nil, n)
		for v := range 1 << 8 {
			wantAny(t, []byte{byte(v)}, n)
		}
		for v := range 1 << 16 {
			wantAny(t, []byte{byte(v), byte(v >> 8)}, n)
		}
	}
}

// All bytes behind some lists: a width and a byte of places, and a number of the
// list ahead of them.
func TestGetAnyPlaces(t *testing.T) {
	for _, list := range [][]byte{{1, 10}, {2, 10, 1}, {3, 10, 1, 0}, {4, 1, 2, 3, 4}, {5, 1, 1, 1, 1, 1}} {
		for n := int(list[0]); n < int(list[0])+2; n++ {
			for v := range 1 << 16 {
				wantAny(t, append(bytes.Clone(list), byte(v), byte(v>>8)), n)
			}
		}
	}
	for v := range 1 << 16 {
		wantAny(t, []byte{2, byte(v), byte(v >> 8), 1, 2}, 2)
		wantAny(t, []byte{5, 1, 1, 1, 1, 1, 3, byte(v), byte(v >> 8)}, 5)
	}
}

// Up to six of the bytes at which something changes, for all counts that they
// may have.
func TestGetEdgeBytes(t *testing.T) {
	some := []byte{0, 1, 2, 3, 0x80, 0x81}
	for size, k := 0, 1; size < 7; size, k = size+1, k*len(some) {
		for v := range k {
			b := make([]byte, size)
			for i := range b {
				b[i] = some[v%len(some)]
				v /= len(some)
			}
			for n := range 6 {
				wantAny(t, b, n)
			}
		}
	}
}

// Bytes of which one is turned, left out, or put in, at each place.
func TestGetTurnedBytes(t *testing.T) {
	for _, l := range [][]int64{{300, 301, 299, 299, 310}, {-1, 0, -1, least, most}, often(least, 4), mixed(12, 5), mixed(9, 9)} {
		b := form(l)
		for i := range b {
			for n := len(l) - 1; n < len(l)+2; n++ {
				for v := range 1 << 8 {
					turned := bytes.Clone(b)
					turned[i] = byte(v)
					wantAny(t, turned, n)
					wantAny(t, slices.Insert(bytes.Clone(b), i, byte(v)), n)
				}
				wantAny(t, slices.Delete(bytes.Clone(b), i, i+1), n)
			}
		}
	}
}

// P11.2

func TestPutIsRead(t *testing.T) {
	lists := [][]int64{nil, edges(), slices.Sorted(slices.Values(edges()))}
	for _, n := range []int{0, 1, 2, 3, 100, 2000, api.MaxRows} {
		lists = append(lists, full(n)...)
	}
	for _, l := range lists {
		b, e := dict.Put(l)
		if e != api.OK {
			t.Fatalf("%d numbers %.20d: error %d", len(l), l, e)
		}
		wantGet(t, b, len(l), l)
	}
}

// All lists of up to six of five numbers; those of as many numbers have all
// other forms.
func TestAllShortLists(t *testing.T) {
	some := []int64{0, -1, 2, most, least}
	for size, k := 0, 1; size < 7; size, k = size+1, k*len(some) {
		seen := map[string]int{}
		for v := range k {
			l := make([]int64, size)
			for i := range l {
				l[i] = some[v%len(some)]
				v /= len(some)
			}
			b := form(l)
			both(t, l, b)
			seen[string(b)]++
		}
		if len(seen) != k {
			t.Fatalf("%d lists of %d numbers, %d forms", k, size, len(seen))
		}
	}
}

func TestReadIsPut(t *testing.T) {
	for k := range 4000 {
		count := k%67 + 1
		list := listed(some(count))
		places := rangeOf(count)
		for i := range k % 23 {
			places = slices.Insert(places, i*7%len(places), chance(k+i)%uint64(count))
		}
		slices.Reverse(places[k%len(places):])
		b := at(list, places...)
		got, e := dict.Get(b, len(places))
		if e != api.OK || !slices.Equal(got, numbers(list, places)) {
			t.Fatalf("%d of %x: %d, error %d", len(places), b, got, e)
		}
		wantPut(t, got, b)
	}
}

// Memory (R4) and one answer (R7).

func TestPutLeavesWhatIsHandedIn(t *testing.T) {
	room := mixed(900, 20)
	l := room[300:600]
	kept := slices.Clone(room)
	want := form(l)
	b, _ := dict.Put(l)
	c, _ := dict.Put(l)
	if !slices.Equal(room, kept) {
		t.Fatal("the list isn't what it was")
	}
	for i := range b {
		b[i] ^= 0xff
	}
	_ = append(b, 1, 2, 3)
	if !bytes.Equal(c, want) || !slices.Equal(room, kept) {
		t.Fatal("answers share memory")
	}
	wantPut(t, l, want)
	clear(l)
	if !bytes.Equal(c, want) {
		t.Fatal("the answer changed with the list")
	}
	wantPut(t, l, form(make([]int64, 300)))
}

func TestListLeavesWhatIsHandedIn(t *testing.T) {
	for _, room := range [][]int64{mixed(900, 20), rising(0, 1, 900), rising(0, -1, 900), often(7, 900)} {
		l := room[300:600]
		kept := slices.Clone(room)
		a := dict.List(l)
		b := dict.List(l)
		want := slices.Clone(b)
		if !slices.Equal(room, kept) {
			t.Fatal("the list isn't what it was")
		}
		clear(a)
		_ = append(a, 1, 2, 3)
		if !slices.Equal(b, want) || !slices.Equal(room, kept) {
			t.Fatal("answers share memory")
		}
		clear(l)
		if !slices.Equal(b, want) {
			t.Fatal("the answer changed with the list")
		}
	}
	one := []int64{5}
	dict.List(one)[0] = 6
	if one[0] != 5 {
		t.Fatal("an answer of one number is the list")
	}
}

// What lies behind a list in its memory, and ahead of it, isn't read.
func TestNotAround(t *testing.T) {
	room := mixed(300, 100)
	for n := range 150 {
		l := slices.Clone(room[n : 2*n])
		wantPut(t, room[n:2*n], form(l))
		wantList(t, room[n:2*n], listed(l))
	}
}

// What lies behind the bytes in their memory isn't read: it would make right
// what is too short.
func TestGetLeavesWhatIsHandedIn(t *testing.T) {
	want := mixed(900, 20)
	room := join(form(want), form(want))
	kept := bytes.Clone(room)
	b := room[:len(form(want))]
	l, _ := dict.Get(b, len(want))
	m, _ := dict.Get(b, len(want))
	for _, end := range []int{0, 1, 2, 10, 100, len(b) - 1} {
		wantGetErr(t, room[:end], len(want), api.ErrShort)
	}
	wantGetErr(t, room, len(want), api.ErrLong)
	if !bytes.Equal(room, kept) {
		t.Fatal("the bytes aren't what they were")
	}
	clear(l)
	_ = append(l, 1, 2, 3)
	if !slices.Equal(m, want) || !bytes.Equal(room, kept) {
		t.Fatal("answers share memory")
	}
	clear(b)
	if !slices.Equal(m, want) {
		t.Fatal("the answer changed with the bytes")
	}
}

// An answer hangs on no order of a map, and on nothing that was asked ahead of
// it, an error least of all.
func TestOneAnswer(t *testing.T) {
	l := mixed(500, 40)
	b := form(l)
	for range 20 {
		both(t, l, b)
		wantList(t, l, listed(l))
		wantGetErr(t, b[:len(b)-1], len(l), api.ErrShort)
		both(t, nil, []byte{0, 0})
		wantGetErr(t, b, -1, api.ErrArg)
		wantGetErr(t, []byte{0x80, 0}, 1, api.ErrForm)
		wantGetErr(t, b, 39, api.ErrRange)
		wantGetErr(t, wide(l, 7), len(l), api.ErrForm)
		wantGetErr(t, append(bytes.Clone(b), 0), len(l), api.ErrLong)
		dict.Put(make([]int64, api.MaxRows+1))
	}
}
