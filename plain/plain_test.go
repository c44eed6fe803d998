package plain_test

import (
	"bytes"
	"encoding/binary"
	"math"
	"slices"
	"testing"

	"estreat/api"
	"estreat/plain"
)

// edges are the numbers at which something changes: 0, the least and the
// greatest one, and those around each edge at which a short number gets one
// byte more, and around each power of two, on both sides of 0.
func edges() []int64 {
	l := []int64{0, -1, 1, 300, -300, math.MinInt64, math.MinInt64 + 1, math.MaxInt64, math.MaxInt64 - 1}
	for i := range 63 {
		p := int64(1) << i
		l = append(l, p-2, p-1, p, p+1, -p-2, -p-1, -p, -p+1)
	}
	return l
}

// mixed is so many numbers of all lengths.
func mixed(n int) []int64 {
	l := make([]int64, n)
	for i := range l {
		v := int64(uint64(i+1) * 6364136223846793005)
		l[i] = v >> (i % 64)
	}
	return l
}

// form is the plain form of l by the words of the document: numbers from 0 on
// are even, those below 0 odd, and bits are taken by sevens.
func form(l []int64) []byte {
	var b []byte
	for _, n := range l {
		v := 2 * uint64(n)
		if n < 0 {
			v = -v - 1
		}
		for v >= 128 {
			b = append(b, byte(v%128+128))
			v /= 128
		}
		b = append(b, byte(v))
	}
	return b
}

// read is what Get answers by the words of the document.
func read(b []byte, n int) ([]int64, api.Errno) {
	if n < 0 || n > api.MaxRows {
		return nil, api.ErrArg
	}
	var l []int64
	for len(l) < n {
		size, e := first(b)
		if e != api.OK {
			return nil, e
		}
		v, _ := binary.Varint(b[:size])
		l = append(l, v)
		b = b[size:]
	}
	if len(b) > 0 {
		return nil, api.ErrLong
	}
	return l, api.OK
}

// first is how many bytes the short number has that b begins with.
func first(b []byte) (int, api.Errno) {
	for i, c := range b {
		if i > 0 && c == 0 || i == 9 && c%128 > 1 || i == 10 {
			return 0, api.ErrForm
		}
		if c < 128 {
			return i + 1, api.OK
		}
	}
	return 0, api.ErrShort
}

// wantPut looks whether b is what Put answers, and Len its length.
func wantPut(t *testing.T, l []int64, want []byte) {
	t.Helper()
	b, e := plain.Put(l)
	if e != api.OK || !bytes.Equal(b, want) {
		t.Fatalf("%d numbers %.20d: %.40x, error %d, not %.40x", len(l), l, b, e, want)
	}
	if n := plain.Len(l); n != len(want) {
		t.Fatalf("%d numbers %.20d: of %d bytes, not %d", len(l), l, n, len(want))
	}
}

func wantGet(t *testing.T, b []byte, n int, want []int64) {
	t.Helper()
	l, e := plain.Get(b, n)
	if e != api.OK || len(l) != n || !slices.Equal(l, want) {
		t.Fatalf("%d of %.40x: %d numbers %.20d, error %d, not %.20d", n, b, len(l), l, e, want)
	}
}

func wantGetErr(t *testing.T, b []byte, n int, want api.Errno) {
	t.Helper()
	if l, e := plain.Get(b, n); e != want || len(l) != 0 {
		t.Fatalf("%d of %.40x: %d numbers %.20d, error %d, not %d", n, b, len(l), l, e, want)
	}
}

// both looks whether l is put as b and b is read as l.
func both(t *testing.T, l []int64, b []byte) {
	t.Helper()
	wantPut(t, l, b)
	wantGet(t, b, len(l), l)
}

// The document's example.

func TestExample(t *testing.T) {
	both(t, []int64{-1, 300}, []byte{0x01, 0xd8, 0x04})
}

// P8.1: Put and Len

func TestNone(t *testing.T) {
	wantPut(t, nil, nil)
	wantPut(t, []int64{}, nil)
}

func TestOne(t *testing.T) {
	for _, x := range []struct {
		n int64
		b []byte
	}{
		{0, []byte{0}}, {-1, []byte{1}}, {1, []byte{2}}, {-2, []byte{3}}, {2, []byte{4}},
		{63, []byte{0x7e}}, {-64, []byte{0x7f}}, {64, []byte{0x80, 1}}, {-65, []byte{0x81, 1}},
		{150, []byte{0xac, 2}}, {-150, []byte{0xab, 2}},
		{8191, []byte{0xfe, 0x7f}}, {-8192, []byte{0xff, 0x7f}}, {8192, []byte{0x80, 0x80, 1}}, {-8193, []byte{0x81, 0x80, 1}},
		{1<<62 - 1, []byte{0xfe, 255, 255, 255, 255, 255, 255, 255, 0x7f}},
		{-1 << 62, []byte{0xff, 255, 255, 255, 255, 255, 255, 255, 0x7f}},
		{1 << 62, []byte{0x80, 128, 128, 128, 128, 128, 128, 128, 128, 1}},
		{-1<<62 - 1, []byte{0x81, 128, 128, 128, 128, 128, 128, 128, 128, 1}},
		{math.MaxInt64, []byte{0xfe, 255, 255, 255, 255, 255, 255, 255, 255, 1}},
		{math.MinInt64, []byte{0xff, 255, 255, 255, 255, 255, 255, 255, 255, 1}},
	} {
		both(t, []int64{x.n}, x.b)
	}
}

func TestEachEdge(t *testing.T) {
	for _, n := range edges() {
		both(t, []int64{n}, form([]int64{n}))
		if want := binary.AppendVarint(nil, n); !bytes.Equal(form([]int64{n}), want) {
			t.Fatalf("%d: the document's form is %x, the library's %x", n, form([]int64{n}), want)
		}
	}
}

// A short number of size bytes holds 7 * size bits, one of them for the sign:
// that many numbers on each side of 0, and the next ones have one byte more.
func TestSizes(t *testing.T) {
	for size := 1; size < 10; size++ {
		most := int64(1)<<(7*size-1) - 1
		for _, x := range []struct {
			n    int64
			size int
		}{{most, size}, {most + 1, size + 1}, {-most - 1, size}, {-most - 2, size + 1}} {
			l := []int64{x.n}
			b, e := plain.Put(l)
			if e != api.OK || len(b) != x.size || plain.Len(l) != x.size {
				t.Fatalf("%d: %x, error %d, Len %d, not of %d bytes", x.n, b, e, plain.Len(l), x.size)
			}
		}
	}
}

func TestMany(t *testing.T) {
	both(t, []int64{0, 0, 0}, []byte{0, 0, 0})
	both(t, []int64{1, 0, -1}, []byte{2, 0, 1})
	both(t, []int64{300, -1, 64, 300}, []byte{0xd8, 4, 1, 0x80, 1, 0xd8, 4})
	l := edges()
	both(t, l, form(l))
	slices.Reverse(l)
	both(t, l, form(l))
	for _, n := range []int{2, 3, 7, 100, 1000, 5000} {
		both(t, mixed(n), form(mixed(n)))
	}
}

// full is lists of so many numbers: of one byte each, of ten, and of all
// lengths.
func full(n int) [][]int64 {
	return [][]int64{make([]int64, n), slices.Repeat([]int64{-1}, n), slices.Repeat([]int64{math.MinInt64}, n), slices.Repeat([]int64{math.MaxInt64}, n), mixed(n)}
}

func TestMost(t *testing.T) {
	for _, n := range []int{api.MaxRows - 1, api.MaxRows} {
		for _, l := range full(n) {
			both(t, l, form(l))
		}
	}
}

// Beyond the limit nothing is put, but its length is told.
func TestBeyondMost(t *testing.T) {
	for _, n := range []int{api.MaxRows + 1, api.MaxRows + 2, 2 * api.MaxRows, 3*api.MaxRows + 5} {
		for _, l := range full(n) {
			if b, e := plain.Put(l); e != api.ErrLimit || len(b) != 0 {
				t.Fatalf("%d numbers: %d bytes, error %d", n, len(b), e)
			}
			if got, want := plain.Len(l), len(form(l)); got != want {
				t.Fatalf("%d numbers: of %d bytes, not %d", n, got, want)
			}
		}
	}
}

// P8.1: Get

func TestGetNone(t *testing.T) {
	wantGet(t, nil, 0, nil)
	wantGet(t, []byte{}, 0, nil)
	for _, b := range [][]byte{{0}, {1}, {0x80}, {0x80, 0}, {0xff}, {0, 0}, make([]byte, 100)} {
		wantGetErr(t, b, 0, api.ErrLong)
	}
}

// ErrArg comes ahead of all that is wrong with the bytes, and of bytes that are
// right but for their number.
func TestGetWrongCount(t *testing.T) {
	for _, n := range []int{-1, -2, -api.MaxRows, -1 << 32, math.MinInt, math.MinInt + 1, api.MaxRows + 1, api.MaxRows + 2, 2 * api.MaxRows, 1 << 32, 1<<32 + 1, 1 << 62, math.MaxInt - 1, math.MaxInt} {
		for _, b := range [][]byte{nil, {}, {0}, {0x80}, {0x80, 0}, {1, 2, 3}, bytes.Repeat([]byte{0xff}, 20), make([]byte, api.MaxRows), make([]byte, api.MaxRows+1), make([]byte, api.MaxRows+2), make([]byte, 2*api.MaxRows)} {
			wantGetErr(t, b, n, api.ErrArg)
		}
	}
}

func TestGetMost(t *testing.T) {
	n := api.MaxRows
	wantGet(t, make([]byte, n), n, make([]int64, n))
	wantGetErr(t, make([]byte, n-1), n, api.ErrShort)
	wantGetErr(t, make([]byte, n+1), n, api.ErrLong)
	wantGetErr(t, nil, n, api.ErrShort)
	wantGetErr(t, append(make([]byte, n-1), 0x80), n, api.ErrShort)
	wantGetErr(t, append(make([]byte, n-1), 0x80, 0), n, api.ErrForm)
}

// Bytes that end in a number, or between two, are too few; that holds wherever
// they end.
func TestGetShort(t *testing.T) {
	for _, n := range []int{1, 2, 3, 65536} {
		wantGetErr(t, nil, n, api.ErrShort)
	}
	for _, b := range [][]byte{{0x80}, {0xff}, {0xff, 0xff}, bytes.Repeat([]byte{0x80}, 9), bytes.Repeat([]byte{0x80}, 10), append(bytes.Repeat([]byte{0xff}, 9), 0x81)} {
		wantGetErr(t, b, 1, api.ErrShort)
		wantGetErr(t, b, 2, api.ErrShort)
		wantGetErr(t, append([]byte{5, 6}, b...), 3, api.ErrShort)
	}
	wantGetErr(t, []byte{1, 2}, 3, api.ErrShort)
	l := append(edges()[:40], math.MinInt64)
	b := form(l)
	for end := range len(b) {
		wantGetErr(t, b[:end], len(l), api.ErrShort)
	}
}

// bad are short numbers that can't be: one that is 0 behind a byte that tells of
// it, one above 64 bits, and one of more than ten bytes.
func bad() [][]byte {
	var l [][]byte
	for n := 1; n < 10; n++ {
		l = append(l, append(bytes.Repeat([]byte{0x80}, n), 0), append(bytes.Repeat([]byte{0xff}, n), 0))
	}
	for _, c := range []byte{2, 3, 4, 0x40, 0x7e, 0x7f, 0x82, 0x83, 0xfe, 0xff} {
		l = append(l, append(bytes.Repeat([]byte{0x80}, 9), c), append(bytes.Repeat([]byte{0xff}, 9), c))
	}
	for _, c := range []byte{0, 1, 0x7f, 0x80, 0x81, 0xff} {
		l = append(l, append(bytes.Repeat([]byte{0x80}, 10), c), append(bytes.Repeat([]byte{0xff}, 9), 0x81, c))
	}
	return l
}

// A number that can't be is told before bytes that are missing or left behind
// it, wherever it is; what is behind the n-th number isn't read.
func TestGetForm(t *testing.T) {
	for _, b := range bad() {
		for _, ahead := range [][]int64{nil, {0}, {-1, 300}, {math.MinInt64, 0, 64}} {
			at := len(ahead)
			laid := append(form(ahead), b...)
			wantGetErr(t, laid, at+1, api.ErrForm)
			wantGetErr(t, laid, at+2, api.ErrForm)
			wantGetErr(t, laid, api.MaxRows, api.ErrForm)
			wantGetErr(t, append(laid[:len(laid):len(laid)], 0, 0, 0), at+1, api.ErrForm)
			wantGetErr(t, append(laid[:len(laid):len(laid)], b...), at+2, api.ErrForm)
			wantGetErr(t, append(laid[:len(laid):len(laid)], 0x80), at+2, api.ErrForm)
			wantGetErr(t, laid, at, api.ErrLong)
		}
	}
}

// What is told is the first error in the order of the bytes: bytes that end
// within a number that could still be are too few.
func TestGetFirstError(t *testing.T) {
	wantGetErr(t, []byte{0x80, 0, 0x80}, 2, api.ErrForm)
	wantGetErr(t, []byte{5, 0x80, 0, 5}, 2, api.ErrForm)
	wantGetErr(t, []byte{5, 0x80, 0, 5}, 1, api.ErrLong)
	wantGetErr(t, []byte{5, 0x80}, 2, api.ErrShort)
	wantGetErr(t, []byte{5, 0x80}, 1, api.ErrLong)
}

func TestGetLong(t *testing.T) {
	for _, l := range [][]int64{{0}, {-1, 300}, {math.MinInt64}, {math.MaxInt64, 0}, mixed(100)} {
		for _, left := range [][]byte{{0}, {1}, {0x80}, {0xff}, {0x80, 0}, {1, 2, 3}, make([]byte, 1000), bytes.Repeat([]byte{0xff}, 1000)} {
			wantGetErr(t, append(form(l), left...), len(l), api.ErrLong)
		}
	}
	l := mixed(60)
	for n := range len(l) {
		wantGetErr(t, form(l), n, api.ErrLong)
	}
	for n := len(l) + 1; n < 2*len(l); n++ {
		wantGetErr(t, form(l), n, api.ErrShort)
	}
}

// wantAny looks whether Get answers as the document says of any bytes.
func wantAny(t *testing.T, b []byte, n int) {
	t.Helper()
	want, e := read(b, n)
	if e != api.OK {
		wantGetErr(t, b, n, e)
		return
	}
	both(t, want, b)
}

// All bytes up to two, for all counts that they may have, and one around them.
func TestGetAnyBytes(t *testing.T) {
	for n := -1; n < 4; n++ {
		wantAny(t, nil, n)
		for v := range 1 << 8 {
			wantAny(t, []byte{byte(v)}, n)
		}
		for v := range 1 << 16 {
			wantAny(t, []byte{byte(v), byte(v >> 8)}, n)
		}
	}
}

// Up to five of the bytes at which something changes, behind as many that go on
// as lead up to the tenth byte of a number.
func TestGetEdgeBytes(t *testing.T) {
	some := []byte{0, 1, 2, 0x7f, 0x80, 0x81, 0xff}
	for _, ahead := range []int{0, 7, 8, 9, 10} {
		for k := range 7 * 7 * 7 * 7 * 7 {
			tail := []byte{some[k%7], some[k/7%7], some[k/49%7], some[k/343%7], some[k/2401]}
			b := append(bytes.Repeat([]byte{0x80}, ahead), tail...)
			for n := range 7 {
				wantAny(t, b, n)
			}
		}
	}
}

// P8.2

func TestPutIsRead(t *testing.T) {
	lists := append(full(2000), full(api.MaxRows)...)
	lists = append(lists, nil, edges(), mixed(1), mixed(777))
	for _, l := range lists {
		b, e := plain.Put(l)
		if e != api.OK || len(b) != plain.Len(l) {
			t.Fatalf("%d numbers: %d bytes, error %d, Len %d", len(l), len(b), e, plain.Len(l))
		}
		wantGet(t, b, len(l), l)
	}
}

func TestReadIsPut(t *testing.T) {
	for k := range 3000 {
		var b []byte
		n := 0
		for ; n < k%17; n++ {
			size := (k + 3*n) % 9
			for i := range size {
				b = append(b, byte(k*31+n*7+i)|0x80)
			}
			b = append(b, byte(k+n)%127+1)
		}
		l, e := plain.Get(b, n)
		if e != api.OK || len(l) != n {
			t.Fatalf("%d of %x: %d numbers, error %d", n, b, len(l), e)
		}
		wantPut(t, l, b)
	}
}

// Two lists have the same form only where they are the same, and a list's form
// hangs on nothing but the list: one is put behind the other.
func TestOneBehindTheOther(t *testing.T) {
	l := mixed(200)
	whole := form(l)
	for k := range len(l) {
		a, _ := plain.Put(l[:k])
		b, _ := plain.Put(l[k:])
		if !bytes.Equal(append(a, b...), whole) || plain.Len(l[:k])+plain.Len(l[k:]) != plain.Len(l) {
			t.Fatalf("cut at %d: another form", k)
		}
	}
}

// Memory (R4) and one answer (R7).

func TestPutLeavesWhatIsHandedIn(t *testing.T) {
	room := mixed(300)
	l := room[100:200]
	kept := slices.Clone(room)
	want := form(l)
	b, _ := plain.Put(l)
	c, _ := plain.Put(l)
	if plain.Len(l) != len(want) || !slices.Equal(room, kept) {
		t.Fatal("the list isn't what it was")
	}
	for i := range b {
		b[i] ^= 0xff
	}
	_ = append(b, 1, 2, 3)
	if !bytes.Equal(c, want) || !slices.Equal(room, kept) {
		t.Fatal("answers share memory")
	}
	wantPut(t, l, want)
	clear(l)
	if !bytes.Equal(c, want) {
		t.Fatal("the answer changed with the list")
	}
	wantPut(t, l, make([]byte, len(l)))
}

// What lies behind the bytes in their memory isn't read: it would make right
// what is too short.
func TestGetLeavesWhatIsHandedIn(t *testing.T) {
	want := mixed(300)
	room := append(form(want), 1, 2, 3, 4)
	kept := bytes.Clone(room)
	b := room[:len(room)-4]
	l, _ := plain.Get(b, len(want))
	m, _ := plain.Get(b, len(want))
	wantGetErr(t, b, len(want)+1, api.ErrShort)
	wantGetErr(t, b[:len(b)-1], len(want), api.ErrShort)
	if !bytes.Equal(room, kept) {
		t.Fatal("the bytes aren't what they were")
	}
	clear(l)
	_ = append(l, 1, 2, 3)
	if !slices.Equal(m, want) || !bytes.Equal(room, kept) {
		t.Fatal("answers share memory")
	}
	clear(b)
	if !slices.Equal(m, want) {
		t.Fatal("the answer changed with the bytes")
	}
}

// An answer hangs on nothing that was asked ahead of it, an error least of all.
func TestOneAnswer(t *testing.T) {
	l := mixed(50)
	b := form(l)
	for range 3 {
		both(t, l, b)
		wantGetErr(t, b, len(l)+1, api.ErrShort)
		both(t, nil, nil)
		wantGetErr(t, b, -1, api.ErrArg)
		wantGetErr(t, []byte{0x80, 0}, 1, api.ErrForm)
		plain.Put(make([]int64, api.MaxRows+1))
	}
}
