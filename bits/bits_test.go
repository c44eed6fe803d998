package bits_test

import (
	"bytes"
	"math"
	"slices"
	"testing"

	"estreat/api"
	"estreat/bits"
)

// counts are numbers of numbers: none, few, those that fill bytes and those
// that don't.
var counts = []int{0, 1, 2, 3, 7, 8, 9, 15, 16, 17, 63, 64, 65, 127, 129}

// outside are numbers that are no width, and below 0 or far above any count.
var outside = []int{-1, -8, math.MinInt, math.MinInt + 1, api.MaxRows + 1, 1 << 31, 1 << 32, 1 << 58, 1 << 60, 1 << 61, math.MaxInt - 7, math.MaxInt}

// some makes n numbers that go into a width, by a short rule; the first one has
// all its bits.
func some(n, width int) []uint64 {
	l := make([]uint64, n)
	v := uint64(math.MaxUint64)
	for i := range l {
		l[i] = cut(v, width)
		v = (v^uint64(i))*6364136223846793005 + 1442695040888963407
		v ^= v >> 29
	}
	return l
}

func cut(v uint64, width int) uint64 {
	if width == 64 {
		return v
	}
	return v & (1<<width - 1)
}

// laid is what Pack should answer, bit by bit by the words of the document.
func laid(l []uint64, width int) []byte {
	b := make([]byte, (len(l)*width+7)/8)
	for i, v := range l {
		for k := range width {
			if v>>k&1 == 1 {
				b[(i*width+k)/8] |= 1 << ((i*width + k) % 8)
			}
		}
	}
	return b
}

func wantPack(t *testing.T, l []uint64, width int, want []byte) {
	t.Helper()
	if b, e := bits.Pack(l, width); e != api.OK || !bytes.Equal(b, want) {
		t.Fatalf("%d numbers in %d bits: %.20x, error %d; not %.20x", len(l), width, b, e, want)
	}
}

func wantUnpack(t *testing.T, b []byte, width int, want []uint64) {
	t.Helper()
	if l, e := bits.Unpack(b, len(want), width); e != api.OK || !slices.Equal(l, want) {
		t.Fatalf("%.20x as %d numbers in %d bits: error %d, or other numbers", b, len(want), width, e)
	}
}

func wantPackErr(t *testing.T, l []uint64, width int, want api.Errno) {
	t.Helper()
	if b, e := bits.Pack(l, width); e != want || len(b) != 0 {
		t.Fatalf("Pack of %d numbers in %d bits: %.20x, error %d, not %d", len(l), width, b, e, want)
	}
}

func wantUnpackErr(t *testing.T, b []byte, n, width int, want api.Errno) {
	t.Helper()
	if l, e := bits.Unpack(b, n, width); e != want || len(l) != 0 {
		t.Fatalf("Unpack of %d bytes %.20x as %d numbers in %d bits: %d numbers, error %d, not %d", len(b), b, n, width, len(l), e, want)
	}
}

// P2.1

func TestWidth(t *testing.T) {
	for _, x := range []struct {
		l []uint64
		w int
	}{
		{nil, 0}, {[]uint64{}, 0}, {[]uint64{0}, 0}, {[]uint64{0, 0, 0}, 0},
		{[]uint64{1}, 1}, {[]uint64{0, 1, 0}, 1}, {[]uint64{1, 2, 3}, 2}, {[]uint64{4, 3, 3}, 3}, {[]uint64{3, 3, 4}, 3},
		{[]uint64{5, 2}, 3}, {[]uint64{255}, 8}, {[]uint64{256}, 9}, {[]uint64{1, 1 << 62, 1}, 63},
		{[]uint64{math.MaxInt64}, 63}, {[]uint64{0, 1 << 63}, 64}, {[]uint64{math.MaxUint64, 0}, 64},
	} {
		if w := bits.Width(x.l); w != x.w {
			t.Fatalf("%x: %d, not %d", x.l, w, x.w)
		}
	}
	for k := range 64 {
		if w := bits.Width([]uint64{1 << k}); w != k+1 {
			t.Fatalf("2^%d: %d", k, w)
		}
		if w := bits.Width([]uint64{0, 1<<k - 1, 0}); w != k {
			t.Fatalf("2^%d - 1: %d", k, w)
		}
	}
}

func TestWidthOfAnyLength(t *testing.T) {
	l := make([]uint64, 3*api.MaxRows)
	if w := bits.Width(l); w != 0 {
		t.Fatal(w)
	}
	l[len(l)-1] = 9
	if w := bits.Width(l); w != 4 {
		t.Fatal(w)
	}
}

func TestSize(t *testing.T) {
	for _, x := range [][3]int{
		{0, 0, 0}, {0, 1, 0}, {0, 64, 0}, {1, 0, 0}, {1, 1, 1}, {8, 1, 1}, {9, 1, 2}, {3, 2, 1}, {4, 2, 1}, {5, 2, 2},
		{1, 7, 1}, {1, 8, 1}, {1, 9, 2}, {2, 9, 3}, {8, 9, 9}, {1, 63, 8}, {1, 64, 8}, {3, 63, 24}, {8, 63, 63},
		{65536, 0, 0}, {65536, 1, 8192}, {65536, 63, 516096}, {65536, 64, 524288}, {65535, 1, 8192}, {65535, 3, 24576}, {65528, 3, 24573},
		{65537, 0, -1}, {65537, 1, -1}, {65537, 64, -1}, {65537, 65, -1}, {-1, 0, -1}, {-1, 8, -1}, {0, -1, -1}, {0, 65, -1}, {1, -1, -1}, {1, 65, -1}, {65536, 65, -1}, {-1, -1, -1},
	} {
		if s := bits.Size(x[0], x[1]); s != x[2] {
			t.Fatalf("%d numbers in %d bits: %d, not %d", x[0], x[1], s, x[2])
		}
	}
	for _, n := range counts {
		for width := range 65 {
			if s := bits.Size(n, width); s != len(laid(make([]uint64, n), width)) {
				t.Fatalf("%d numbers in %d bits: %d", n, width, s)
			}
		}
	}
}

func TestSizeOutside(t *testing.T) {
	for _, bad := range outside {
		for _, good := range []int{0, 1, 8, 64} {
			if s := bits.Size(bad, good); s != -1 {
				t.Fatalf("%d numbers in %d bits: %d", bad, good, s)
			}
			if s := bits.Size(good, bad); s != -1 {
				t.Fatalf("%d numbers in %d bits: %d", good, bad, s)
			}
		}
		if s := bits.Size(bad, bad); s != -1 {
			t.Fatalf("%d numbers in %d bits: %d", bad, bad, s)
		}
	}
}

// P2.2

func TestForm(t *testing.T) {
	for _, x := range []struct {
		l     []uint64
		width int
		b     []byte
	}{
		{nil, 0, nil}, {nil, 5, nil}, {nil, 64, nil},
		{[]uint64{0}, 0, nil}, {[]uint64{0, 0, 0, 0}, 0, nil},
		{[]uint64{1, 2, 3}, 2, []byte{0x39}},
		{[]uint64{1, 2, 3, 3}, 2, []byte{0xf9}},
		{[]uint64{1, 2, 3, 3, 1}, 2, []byte{0xf9, 1}},
		{[]uint64{1, 2, 3}, 3, []byte{0xd1, 0}},
		{[]uint64{1, 2, 7}, 3, []byte{0xd1, 1}},
		{[]uint64{1, 0, 0, 0, 0, 0, 0, 0, 1}, 1, []byte{1, 1}},
		{[]uint64{0xab, 0xcd}, 8, []byte{0xab, 0xcd}},
		{[]uint64{0x1ab, 0}, 9, []byte{0xab, 1, 0}},
		{[]uint64{0x1ff, 0x155}, 9, []byte{0xff, 0xab, 2}},
		{[]uint64{0x0123, 0x4567}, 16, []byte{0x23, 1, 0x67, 0x45}},
		{[]uint64{0}, 64, make([]byte, 8)},
		{[]uint64{0x0102030405060708, math.MaxUint64}, 64, []byte{8, 7, 6, 5, 4, 3, 2, 1, 255, 255, 255, 255, 255, 255, 255, 255}},
		{[]uint64{math.MaxInt64, 1}, 63, []byte{255, 255, 255, 255, 255, 255, 255, 255, 0, 0, 0, 0, 0, 0, 0, 0}},
	} {
		wantPack(t, x.l, x.width, x.b)
		wantUnpack(t, x.b, x.width, x.l)
	}
}

func TestAllWidths(t *testing.T) {
	for width := range 65 {
		for _, n := range counts {
			l := some(n, width)
			wantPack(t, l, width, laid(l, width))
			wantUnpack(t, laid(l, width), width, l)
		}
	}
}

func TestMostNumbers(t *testing.T) {
	for _, width := range []int{0, 1, 2, 3, 7, 8, 13, 33, 63, 64} {
		for _, n := range []int{api.MaxRows - 1, api.MaxRows} {
			l := some(n, width)
			b := laid(l, width)
			wantPack(t, l, width, b)
			wantUnpack(t, b, width, l)
		}
		more := some(api.MaxRows+1, width)
		wantPackErr(t, more, width, api.ErrArg)
		wantUnpackErr(t, laid(more, width), len(more), width, api.ErrArg)
		wantUnpackErr(t, nil, len(more), width, api.ErrArg)
	}
}

func TestPackWrongWidth(t *testing.T) {
	for _, width := range append([]int{65, 66, 72, 128}, outside...) {
		for _, l := range [][]uint64{nil, {0}, {1, 2, 3}, {math.MaxUint64}} {
			wantPackErr(t, l, width, api.ErrArg)
		}
	}
}

// TestPackRange: one number that is too great by a bit, in each place.
func TestPackRange(t *testing.T) {
	for width := range 64 {
		for k := width; k < 64; k++ {
			for at := range 4 {
				l := some(4, width)
				l[at] = 1 << k
				wantPackErr(t, l, width, api.ErrRange)
				wantPack(t, l, k+1, laid(l, k+1))
			}
		}
		wantPackErr(t, []uint64{math.MaxUint64}, width, api.ErrRange)
	}
	l := make([]uint64, api.MaxRows)
	l[len(l)-1] = 2
	wantPackErr(t, l, 1, api.ErrRange)
}

// TestPackArgFirst: where no size is, that is told ahead of a number that is
// too great.
func TestPackArgFirst(t *testing.T) {
	l := make([]uint64, api.MaxRows+1)
	l[0], l[len(l)-1] = 2, 2
	wantPackErr(t, l, 1, api.ErrArg)
	wantPackErr(t, l, 0, api.ErrArg)
	wantPackErr(t, l[:1], -1, api.ErrArg)
}

func TestUnpackWrongArg(t *testing.T) {
	for _, b := range [][]byte{nil, {0}, {255}, make([]byte, 8), make([]byte, 9)} {
		for _, bad := range outside {
			wantUnpackErr(t, b, bad, 8, api.ErrArg)
			wantUnpackErr(t, b, bad, 0, api.ErrArg)
			wantUnpackErr(t, b, 1, bad, api.ErrArg)
			wantUnpackErr(t, b, 0, bad, api.ErrArg)
			wantUnpackErr(t, b, bad, bad, api.ErrArg)
		}
		wantUnpackErr(t, b, 1, 65, api.ErrArg)
		wantUnpackErr(t, b, 0, 65, api.ErrArg)
	}
}

// TestUnpackLength: bytes of all 1s, which would be ErrForm where bits are left,
// tell their length first.
func TestUnpackLength(t *testing.T) {
	for _, n := range counts {
		for width := range 65 {
			size := bits.Size(n, width)
			for _, fill := range []byte{0, 255} {
				for less := 1; less <= min(size, 9); less++ {
					wantUnpackErr(t, bytes.Repeat([]byte{fill}, size-less), n, width, api.ErrShort)
				}
				for more := 1; more <= 9; more++ {
					wantUnpackErr(t, bytes.Repeat([]byte{fill}, size+more), n, width, api.ErrLong)
				}
			}
		}
	}
	wantUnpackErr(t, nil, api.MaxRows, 64, api.ErrShort)
	wantUnpackErr(t, make([]byte, 1<<19-1), api.MaxRows, 64, api.ErrShort)
	wantUnpackErr(t, make([]byte, 1<<19+1), api.MaxRows, 64, api.ErrLong)
	wantUnpackErr(t, []byte{0}, api.MaxRows, 0, api.ErrLong)
}

// TestUnpackBitsLeft: each bit of the last byte that no number has, by itself.
func TestUnpackBitsLeft(t *testing.T) {
	for _, n := range counts {
		for width := range 65 {
			for bit := n * width % 8; bit > 0 && bit < 8; bit++ {
				l := some(n, width)
				b := laid(l, width)
				wantUnpack(t, b, width, l)
				b[len(b)-1] |= 1 << bit
				wantUnpackErr(t, b, n, width, api.ErrForm)
				clear(b[:len(b)-1])
				b[len(b)-1] = 1 << bit
				wantUnpackErr(t, b, n, width, api.ErrForm)
			}
		}
	}
	b := make([]byte, bits.Size(api.MaxRows-1, 1))
	b[len(b)-1] = 0x80
	wantUnpackErr(t, b, api.MaxRows-1, 1, api.ErrForm)
	wantUnpack(t, b, 1, append(make([]uint64, api.MaxRows-1), 1))
}

// P2.3

func TestWhatIsPackedIsUnpacked(t *testing.T) {
	for width := range 65 {
		for _, n := range counts {
			l := some(n, width)
			least := bits.Width(l)
			for w := range 65 {
				b, e := bits.Pack(l, w)
				if w < least {
					if e != api.ErrRange || len(b) != 0 {
						t.Fatalf("%d bits take what needs %d: error %d", w, least, e)
					}
					continue
				}
				if e != api.OK || len(b) != bits.Size(n, w) {
					t.Fatalf("%d numbers of %d bits in %d: %d bytes, error %d", n, least, w, len(b), e)
				}
				wantUnpack(t, b, w, l)
			}
		}
	}
}

// TestWhatIsUnpackedIsPacked goes through all bytes of one or two, as whatever
// they may be: an error, or numbers that are these bytes again.
func TestWhatIsUnpackedIsPacked(t *testing.T) {
	for v := range 1 << 16 {
		b := []byte{byte(v), byte(v >> 8)}
		for _, x := range [][2]int{{1, 9}, {1, 16}, {2, 5}, {2, 7}, {2, 8}, {3, 3}, {3, 5}, {5, 2}, {7, 2}, {9, 1}, {15, 1}, {16, 1}} {
			wantOneForm(t, b, x[0], x[1])
			wantOneForm(t, b[:1], x[0], x[1])
			wantOneForm(t, b[:1], x[0]/2, x[1])
		}
	}
	for _, n := range counts {
		for width := range 65 {
			b := make([]byte, bits.Size(n, width))
			for k, v := range some(len(b), 8) {
				b[k] = byte(v)
			}
			wantOneForm(t, b, n, width)
		}
	}
}

func wantOneForm(t *testing.T, b []byte, n, width int) {
	t.Helper()
	l, e := bits.Unpack(b, n, width)
	size := bits.Size(n, width)
	whole := len(b) == size && (n*width%8 == 0 || b[size-1]>>(n*width%8) == 0)
	if whole != (e == api.OK) {
		t.Fatalf("%x as %d numbers in %d bits: error %d", b, n, width, e)
	}
	if whole {
		wantPack(t, l, width, b)
	}
}

// What is handed in, and what is answered.

func TestMemory(t *testing.T) {
	room := slices.Repeat([]uint64{3}, 16)
	b, _ := bits.Pack(room[:5], 2)
	_ = append(b, 99)
	clear(b)
	if !slices.Equal(room, slices.Repeat([]uint64{3}, 16)) {
		t.Fatal("Pack changes what is handed in")
	}
	wantPack(t, room[:5], 2, []byte{255, 3})
	full := bytes.Repeat([]byte{0x0f}, 16)
	l, _ := bits.Unpack(full[:3], 3, 7)
	wantUnpack(t, full[:3], 7, []uint64{0x0f, 0x1e, 0x3c})
	wantUnpackErr(t, full[:1], 1, 3, api.ErrForm)
	_ = append(l, 99)
	clear(l)
	if !bytes.Equal(full, bytes.Repeat([]byte{0x0f}, 16)) {
		t.Fatal("Unpack changes what is handed in")
	}
}
