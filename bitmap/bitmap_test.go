package bitmap_test

import (
	"bytes"
	"math"
	"slices"
	"testing"

	"estreat/api"
	"estreat/bitmap"
)

// counts are numbers of places: none, those that fill their bytes, those that
// don't, and the most.
var counts = []int{0, 1, 2, 3, 4, 5, 6, 7, 8, 9, 10, 15, 16, 17, 23, 24, 25, 31, 32, 33, 63, 64, 65, 127, 128, 129, 1000, 1024, api.MaxRows - 9, api.MaxRows - 8, api.MaxRows - 1, api.MaxRows}

// outside are no numbers of places.
var outside = []int{-1, -2, -7, -8, -9, -64, -api.MaxRows, math.MinInt32, math.MinInt, math.MinInt + 1, math.MinInt + 7, math.MinInt + 8, api.MaxRows + 1, api.MaxRows + 7, api.MaxRows + 8, 2 * api.MaxRows, 1 << 31, 1 << 32, 1<<32 + 8, 1 << 62, math.MaxInt - 8, math.MaxInt - 7, math.MaxInt - 6, math.MaxInt}

// beyond are numbers that are no places of n of them, on both sides.
func beyond(n int) []int {
	l := append([]int{n, n + 1, n + 7, n + 8, n + 9, n + 64}, outside...)
	return slices.DeleteFunc(l, func(i int) bool { return i >= 0 && i < n })
}

// pattern says which places are marked.
type pattern struct {
	name string
	has  func(i int) bool
}

var patterns = []pattern{
	{"none", func(int) bool { return false }},
	{"all", func(int) bool { return true }},
	{"even", func(i int) bool { return i%2 == 0 }},
	{"odd", func(i int) bool { return i%2 == 1 }},
	{"first", func(i int) bool { return i == 0 }},
	{"sevenths of a byte", func(i int) bool { return i%8 == 7 }},
	{"firsts of a byte", func(i int) bool { return i%8 == 0 }},
	{"all but the first", func(i int) bool { return i != 0 }},
	{"every other byte", func(i int) bool { return i/8%2 == 1 }},
	{"mixed", func(i int) bool { return uint64(i+1)*6364136223846793005>>61&1 == 1 }},
	{"few", func(i int) bool { return uint64(i+1)*6364136223846793005>>58&31 == 3 }},
}

// marks are the places of n that a pattern marks.
func (p pattern) marks(n int) []int {
	var l []int
	for i := range n {
		if p.has(i) {
			l = append(l, i)
		}
	}
	return l
}

// laid is the bytes of n places of which some are marked, by the words of the
// document.
func laid(n int, marks []int) []byte {
	size := 0
	for size*8 < n {
		size++
	}
	b := make([]byte, size)
	for _, i := range marks {
		b[i/8] |= 1 << (i % 8)
	}
	return b
}

func made(t *testing.T, n int, marks ...int) *bitmap.Set {
	t.Helper()
	s := bitmap.New(n)
	if s == nil {
		t.Fatalf("no set of %d places", n)
	}
	for _, i := range marks {
		if !s.Mark(i) {
			t.Fatalf("%d of %d isn't marked", i, n)
		}
	}
	return s
}

func read(t *testing.T, b []byte, n int) *bitmap.Set {
	t.Helper()
	s, e := bitmap.Read(b, n)
	if e != api.OK || s == nil {
		t.Fatalf("%.20x of %d places: error %d, or no set", b, n, e)
	}
	return s
}

// holds is whether s is the set of n places of which these are marked, by all
// that it tells. The marks rise.
func holds(t *testing.T, s *bitmap.Set, n int, marks ...int) {
	t.Helper()
	if got := s.Len(); got != n {
		t.Fatalf("%d places, not %d", got, n)
	}
	if got := s.Count(); got != len(marks) {
		t.Fatalf("%d of %d are marked, not %d", got, n, len(marks))
	}
	if got := s.All(); !slices.Equal(got, marks) {
		t.Fatalf("of %d places: %.40v, not %.40v", n, got, marks)
	}
	if got, want := s.Bytes(), laid(n, marks); !bytes.Equal(got, want) {
		t.Fatalf("of %d places: %.40x, not %.40x", n, got, want)
	}
	for i, has := range asked(n, marks) {
		if s.Has(i) != has {
			t.Fatalf("has %d of %d: %v", i, n, !has)
		}
	}
}

// asked are all places of n, and whether they are marked.
func asked(n int, marks []int) []bool {
	l := make([]bool, n)
	for _, i := range marks {
		l[i] = true
	}
	return l
}

func wantReadErr(t *testing.T, b []byte, n int, want api.Errno) {
	t.Helper()
	if s, e := bitmap.Read(b, n); e != want || s != nil {
		t.Fatalf("%d bytes %.20x of %d places: error %d, not %d, or a set beside it", len(b), b, n, e, want)
	}
}

// The document's example.

func TestExample(t *testing.T) {
	s := made(t, 10, 0, 9)
	if b := s.Bytes(); !bytes.Equal(b, []byte{1, 2}) {
		t.Fatalf("%x", b)
	}
	holds(t, s, 10, 0, 9)
	holds(t, read(t, []byte{1, 2}, 10), 10, 0, 9)
}

// P7.1: New

func TestNew(t *testing.T) {
	for _, n := range counts {
		holds(t, made(t, n), n)
	}
}

func TestNewOutside(t *testing.T) {
	for _, n := range outside {
		if bitmap.New(n) != nil {
			t.Errorf("a set of %d places", n)
		}
	}
}

func TestNewSetsAreApart(t *testing.T) {
	for _, n := range []int{1, 7, 8, 9, 100} {
		a, b := made(t, n), made(t, n)
		a.Mark(n - 1)
		holds(t, a, n, n-1)
		holds(t, b, n)
	}
}

// P7.1: Read

func TestRead(t *testing.T) {
	for _, x := range []struct {
		b     []byte
		n     int
		marks []int
	}{
		{nil, 0, nil}, {[]byte{}, 0, nil}, {[]byte{0}, 1, nil}, {[]byte{1}, 1, []int{0}},
		{[]byte{0x7f}, 7, []int{0, 1, 2, 3, 4, 5, 6}}, {[]byte{0x40}, 7, []int{6}},
		{[]byte{0xff}, 8, []int{0, 1, 2, 3, 4, 5, 6, 7}}, {[]byte{0x80}, 8, []int{7}}, {[]byte{0x81}, 8, []int{0, 7}},
		{[]byte{0xa5}, 8, []int{0, 2, 5, 7}}, {[]byte{0, 1}, 9, []int{8}}, {[]byte{0x80, 1}, 9, []int{7, 8}},
		{[]byte{1, 0, 0x80}, 24, []int{0, 23}}, {[]byte{0, 0x12, 0}, 17, []int{9, 12}},
	} {
		holds(t, read(t, x.b, x.n), x.n, x.marks...)
	}
}

// Each place alone is the one bit that is its own.
func TestReadEachPlace(t *testing.T) {
	for n := range 40 {
		for i := range n {
			b := make([]byte, (n+7)/8)
			b[i/8] = 1 << (i % 8)
			holds(t, read(t, b, n), n, i)
		}
	}
}

func TestReadPatterns(t *testing.T) {
	for _, n := range counts {
		for _, p := range patterns {
			marks := p.marks(n)
			holds(t, read(t, laid(n, marks), n), n, marks...)
		}
	}
}

// ErrArg comes ahead of what the bytes are.
func TestReadWrongCount(t *testing.T) {
	for _, n := range outside {
		for _, b := range [][]byte{nil, {}, {0}, {0xff}, make([]byte, 8), make([]byte, 8191), make([]byte, 8192), make([]byte, 8193), make([]byte, 8194), bytes.Repeat([]byte{0xff}, 8193)} {
			wantReadErr(t, b, n, api.ErrArg)
		}
	}
}

// ErrShort and ErrLong come ahead of bits that are left: all bits of these bytes
// are 0, or all are 1.
func TestReadLength(t *testing.T) {
	for _, n := range counts {
		size := len(laid(n, nil))
		for _, fill := range []byte{0, 0xff} {
			for _, less := range []int{1, 2, 8, size} {
				if less > 0 && less <= size {
					wantReadErr(t, bytes.Repeat([]byte{fill}, size-less), n, api.ErrShort)
				}
			}
			for _, more := range []int{1, 2, 8, size + 1, 8*size + 1} {
				wantReadErr(t, bytes.Repeat([]byte{fill}, size+more), n, api.ErrLong)
			}
		}
	}
}

// A byte too many doesn't count by what it is, nor does what is ahead of it.
func TestReadLongByOne(t *testing.T) {
	for _, n := range []int{0, 7, 8, 9, 16, 20} {
		for _, p := range patterns {
			for _, last := range []byte{0, 1, 0x80, 0xff} {
				wantReadErr(t, append(laid(n, p.marks(n)), last), n, api.ErrLong)
			}
		}
	}
}

// Each bit that is left, alone and beside others, whatever the places are; the
// highest bit that is a place is none of them.
func TestReadBitsLeft(t *testing.T) {
	for _, n := range counts {
		for _, p := range patterns {
			marks := p.marks(n)
			for bit := n % 8; bit > 0 && bit < 8; bit++ {
				b := laid(n, marks)
				b[len(b)-1] |= 1 << bit
				wantReadErr(t, b, n, api.ErrForm)
				b[len(b)-1] |= 0xff << bit
				wantReadErr(t, b, n, api.ErrForm)
			}
		}
		if n > 0 {
			holds(t, read(t, laid(n, []int{n - 1}), n), n, n-1)
		}
	}
}

// All bytes, up to two of them, for all numbers of places that may have so many.
func TestReadAnyBytes(t *testing.T) {
	for n := range 18 {
		wantRead(t, nil, n)
		for v := range 1 << 8 {
			wantRead(t, []byte{byte(v)}, n)
		}
		for v := range 1 << 16 {
			wantRead(t, []byte{byte(v), byte(v >> 8)}, n)
		}
	}
}

func wantRead(t *testing.T, b []byte, n int) {
	t.Helper()
	size := (n + 7) / 8
	want := api.OK
	switch {
	case len(b) < size:
		want = api.ErrShort
	case len(b) > size:
		want = api.ErrLong
	case n%8 != 0 && int(b[size-1]) >= 1<<(n%8):
		want = api.ErrForm
	}
	if want != api.OK {
		wantReadErr(t, b, n, want)
		return
	}
	s := read(t, b, n)
	if s.Len() != n || !bytes.Equal(s.Bytes(), b) {
		t.Fatalf("%x of %d places: read as %x of %d", b, n, s.Bytes(), s.Len())
	}
}

// P7.2: Mark

func TestMarkBothEnds(t *testing.T) {
	for _, n := range counts {
		if n == 0 {
			continue
		}
		s := made(t, n, n-1)
		holds(t, s, n, n-1)
		if n > 1 {
			if !s.Mark(0) {
				t.Fatalf("0 of %d isn't marked", n)
			}
			holds(t, s, n, 0, n-1)
		}
	}
}

// Each place is marked once; what is marked ahead stays.
func TestMarkEachPlace(t *testing.T) {
	for _, n := range []int{1, 2, 7, 8, 9, 15, 16, 17, 64, 65} {
		s := made(t, n)
		var marks []int
		for k := range n {
			i := k / 2
			if k%2 == 1 {
				i = n - 1 - i
			}
			marks = append(marks, i)
			if !s.Mark(i) {
				t.Fatalf("%d of %d isn't marked", i, n)
			}
			holds(t, s, n, slices.Sorted(slices.Values(marks))...)
		}
	}
}

func TestMarkMarked(t *testing.T) {
	for _, n := range []int{1, 7, 8, 9, 20, 64} {
		for i := range n {
			s := made(t, n, i)
			for range 3 {
				if s.Mark(i) {
					t.Fatalf("%d of %d is marked once more", i, n)
				}
				holds(t, s, n, i)
			}
		}
	}
	s := made(t, 9, 0, 3, 8)
	for _, i := range []int{8, 3, 0, 3} {
		if s.Mark(i) {
			t.Fatalf("%d is marked once more", i)
		}
	}
	holds(t, s, 9, 0, 3, 8)
}

// What Read made is marked as what New made.
func TestMarkOfRead(t *testing.T) {
	s := read(t, []byte{0x81, 1}, 9)
	for i, free := range []bool{false, true, true, true, true, true, true, false, false} {
		if s.Mark(i) != free {
			t.Fatalf("mark %d: %v", i, !free)
		}
	}
	holds(t, s, 9, 0, 1, 2, 3, 4, 5, 6, 7, 8)
}

func TestMarkBeyond(t *testing.T) {
	for _, n := range counts {
		for _, p := range []pattern{patterns[0], patterns[1], patterns[9]} {
			marks := p.marks(n)
			s := read(t, laid(n, marks), n)
			for _, i := range beyond(n) {
				if s.Mark(i) {
					t.Fatalf("%d of %d is marked", i, n)
				}
			}
			holds(t, s, n, marks...)
		}
	}
}

// P7.2: Has

func TestHasBeyond(t *testing.T) {
	for _, n := range counts {
		for _, p := range []pattern{patterns[0], patterns[1]} {
			s := read(t, laid(n, p.marks(n)), n)
			for _, i := range beyond(n) {
				if s.Has(i) {
					t.Fatalf("has %d of %d, %s", i, n, p.name)
				}
			}
		}
	}
}

// P7.2: Rank

func TestRank(t *testing.T) {
	s := made(t, 20, 0, 3, 7, 8, 15, 19)
	for i, want := range []int{0, 1, 1, 1, 2, 2, 2, 2, 3, 4, 4, 4, 4, 4, 4, 4, 5, 5, 5, 5, 6} {
		if got := s.Rank(i); got != want {
			t.Fatalf("below %d: %d, not %d", i, got, want)
		}
	}
}

func TestRankOfEachPlace(t *testing.T) {
	for _, n := range counts {
		if n > 2000 {
			continue
		}
		for _, p := range patterns {
			s := read(t, laid(n, p.marks(n)), n)
			below := 0
			for i := range n + 1 {
				if got := s.Rank(i); got != below {
					t.Fatalf("%s, below %d of %d: %d, not %d", p.name, i, n, got, below)
				}
				if i < n && p.has(i) {
					below++
				}
			}
		}
	}
}

func TestRankOfMost(t *testing.T) {
	n := api.MaxRows
	for _, p := range patterns {
		marks := p.marks(n)
		s := read(t, laid(n, marks), n)
		for _, i := range []int{0, 1, 7, 8, 9, 255, 256, 257, 4095, 32767, 32768, 32769, n - 9, n - 8, n - 7, n - 1, n} {
			want, _ := slices.BinarySearch(marks, i)
			if got := s.Rank(i); got != want {
				t.Fatalf("%s, below %d: %d, not %d", p.name, i, got, want)
			}
		}
	}
}

// Below 0 there is none; all are below what is beyond the end.
func TestRankBeyond(t *testing.T) {
	for _, n := range counts {
		for _, p := range patterns {
			marks := p.marks(n)
			s := read(t, laid(n, marks), n)
			for _, i := range beyond(n) {
				want := len(marks)
				if i < 0 {
					want = 0
				}
				if got := s.Rank(i); got != want {
					t.Fatalf("%s of %d, below %d: %d, not %d", p.name, n, i, got, want)
				}
			}
		}
	}
}

// P7.2: Len, Count, Bytes, All

func TestEmptyFullMixed(t *testing.T) {
	for _, x := range []struct {
		n     int
		marks []int
		b     []byte
	}{
		{0, nil, nil},
		{7, nil, []byte{0}}, {7, []int{0, 1, 2, 3, 4, 5, 6}, []byte{0x7f}}, {7, []int{1, 6}, []byte{0x42}},
		{8, nil, []byte{0}}, {8, []int{0, 1, 2, 3, 4, 5, 6, 7}, []byte{0xff}}, {8, []int{2, 7}, []byte{0x84}},
		{9, nil, []byte{0, 0}}, {9, []int{0, 1, 2, 3, 4, 5, 6, 7, 8}, []byte{0xff, 1}}, {9, []int{4, 8}, []byte{0x10, 1}},
	} {
		s := made(t, x.n, x.marks...)
		if b := s.Bytes(); !bytes.Equal(b, x.b) {
			t.Fatalf("%v of %d: %x, not %x", x.marks, x.n, b, x.b)
		}
		holds(t, s, x.n, x.marks...)
	}
}

func TestAllCounts(t *testing.T) {
	for _, n := range counts {
		for _, p := range patterns {
			marks := p.marks(n)
			holds(t, made(t, n, marks...), n, marks...)
		}
	}
}

// In whatever order places are marked, they are told rising.
func TestOrderOfMarks(t *testing.T) {
	for _, n := range []int{9, 16, 100, 1000} {
		for _, p := range patterns {
			marks := p.marks(n)
			back := slices.Clone(marks)
			slices.Reverse(back)
			holds(t, made(t, n, back...), n, marks...)
		}
	}
}

// Asking changes nothing.
func TestAskingTwice(t *testing.T) {
	s := made(t, 20, 1, 8, 19)
	for range 3 {
		holds(t, s, 20, 1, 8, 19)
		if s.Rank(9) != 2 || s.Has(2) || s.Copy().Count() != 3 {
			t.Fatal("another answer")
		}
	}
}

// P7.2: Copy

func TestCopy(t *testing.T) {
	for _, n := range counts {
		for _, p := range patterns {
			marks := p.marks(n)
			s := read(t, laid(n, marks), n)
			c := s.Copy()
			if c == nil || c == s {
				t.Fatalf("%d places: no other set", n)
			}
			holds(t, c, n, marks...)
			holds(t, s, n, marks...)
		}
	}
}

func TestCopyIsAnother(t *testing.T) {
	for _, n := range []int{2, 7, 8, 9, 16, 17, 100} {
		s := made(t, n, 0)
		c := s.Copy()
		if !s.Mark(n - 1) {
			t.Fatalf("%d of %d isn't marked", n-1, n)
		}
		holds(t, c, n, 0)
		if !c.Mark(n - 1) {
			t.Fatalf("%d of %d isn't marked in the copy", n-1, n)
		}
		holds(t, c, n, 0, n-1)
		d := c.Copy()
		if n > 2 {
			if !d.Mark(1) {
				t.Fatal("1 isn't marked in the copy's copy")
			}
			holds(t, d, n, 0, 1, n-1)
		}
		holds(t, c, n, 0, n-1)
		holds(t, s, n, 0, n-1)
	}
}

// P7.3: what Bytes tells Read reads as it was

func TestBytesAreRead(t *testing.T) {
	for _, n := range counts {
		for _, p := range patterns {
			marks := p.marks(n)
			s := made(t, n, marks...)
			holds(t, read(t, s.Bytes(), n), n, marks...)
			holds(t, read(t, s.Copy().Bytes(), n), n, marks...)
		}
	}
}

// The same bytes are of the numbers of places alone that they fit.
func TestBytesOfOtherCounts(t *testing.T) {
	b := made(t, 10, 0, 9).Bytes()
	for n := range 40 {
		switch {
		case n <= 8:
			wantReadErr(t, b, n, api.ErrLong)
		case n == 9:
			wantReadErr(t, b, n, api.ErrForm)
		case n <= 16:
			holds(t, read(t, b, n), n, 0, 9)
		default:
			wantReadErr(t, b, n, api.ErrShort)
		}
	}
}

// P7.3: nil

func TestNil(t *testing.T) {
	var s *bitmap.Set
	for _, i := range append([]int{0, 1, 7, 8, 9, api.MaxRows - 1, api.MaxRows}, outside...) {
		if s.Mark(i) || s.Has(i) || s.Rank(i) != 0 {
			t.Fatalf("%d of none", i)
		}
	}
	if s.Len() != 0 || s.Count() != 0 {
		t.Fatalf("%d places, %d marked", s.Len(), s.Count())
	}
	if len(s.Bytes()) != 0 || len(s.All()) != 0 {
		t.Fatalf("%x, %v", s.Bytes(), s.All())
	}
	if s.Copy() != nil {
		t.Fatal("a copy of none")
	}
}

// R4: what is handed in stays, what is answered is new memory

func TestReadKeepsNothing(t *testing.T) {
	room := []byte{0x55, 0x55, 1, 0xee, 0xee}
	s := read(t, room[:3], 17)
	holds(t, s, 17, 0, 2, 4, 6, 8, 10, 12, 14, 16)
	s.Mark(1)
	if !bytes.Equal(room, []byte{0x55, 0x55, 1, 0xee, 0xee}) {
		t.Fatalf("what was handed in is %x", room)
	}
	clear(room)
	holds(t, s, 17, 0, 1, 2, 4, 6, 8, 10, 12, 14, 16)
	full := bytes.Repeat([]byte{0xff}, 9)
	for n := range 90 {
		_, _ = bitmap.Read(full, n)
		_, _ = bitmap.Read(full[:3], n)
	}
	if !bytes.Equal(full, bytes.Repeat([]byte{0xff}, 9)) {
		t.Fatalf("what was handed in is %x", full)
	}
}

func TestAnswersAreNew(t *testing.T) {
	for _, s := range []*bitmap.Set{made(t, 20, 1, 8, 19), read(t, []byte{2, 1, 8}, 20), made(t, 20, 1, 8, 19).Copy()} {
		b, l := s.Bytes(), s.All()
		clear(b)
		clear(l)
		_ = append(b[:0], 0xff, 0xff, 0xff, 0xff)
		_ = append(l[:0], 5, 5, 5, 5)
		holds(t, s, 20, 1, 8, 19)
		b, l = s.Bytes(), s.All()
		s.Mark(0)
		if !bytes.Equal(b, []byte{2, 1, 8}) || !slices.Equal(l, []int{1, 8, 19}) {
			t.Fatalf("what was answered is %x, %v", b, l)
		}
		holds(t, s, 20, 0, 1, 8, 19)
	}
}

// Answers share no memory behind their lengths either.
func TestAnswersAreApart(t *testing.T) {
	s := made(t, 20, 1, 8, 19)
	c := s.Copy()
	a, b := s.Bytes(), s.Bytes()
	for _, x := range [][]byte{a, b, c.Bytes()} {
		x = x[:cap(x)]
		for k := range x {
			x[k] = 0xff
		}
	}
	x, y := s.All(), s.All()
	for k := range x[:cap(x)] {
		x[:cap(x)][k] = -1
	}
	if !slices.Equal(y, []int{1, 8, 19}) {
		t.Fatalf("%v", y)
	}
	holds(t, s, 20, 1, 8, 19)
	holds(t, c, 20, 1, 8, 19)
}
