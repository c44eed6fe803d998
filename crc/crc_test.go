package crc_test

import (
	"bytes"
	"math"
	"strings"
	"testing"

	"estreat/crc"
)

// some makes n bytes by a short rule.
func some(n int) []byte {
	b := make([]byte, n)
	v := uint64(n) + 88172645463325252
	for i := range b {
		v ^= v << 13
		v ^= v >> 7
		v ^= v << 17
		b[i] = byte(v >> 24)
	}
	return b
}

// taken takes bytes into a remainder bit by bit, by the words of the document.
func taken(r uint32, b []byte) uint32 {
	for _, c := range b {
		for i := range 8 {
			bit := uint32(c) >> i & 1
			if r&1 != bit {
				r = r>>1 ^ 0xedb88320
			} else {
				r >>= 1
			}
		}
	}
	return r
}

func told(b []byte) uint32 {
	return ^taken(math.MaxUint32, b)
}

// edges are sums that have few bits, nearly all, or none of one half.
var edges = []uint32{0, 1, 0xff, 0x100, 0xffff, 0x10000, 0xedb88320, 0xcbf43926, 0x7fffffff, 0x80000000, 0xff000000, 0xfffffffe, 0xffffffff}

// P3.1

func TestSumOfKnownTexts(t *testing.T) {
	for text, want := range map[string]uint32{
		"":               0,
		"123456789":      0xcbf43926,
		"a":              0xe8b7be43,
		"abc":            0x352441c2,
		"message digest": 0x20159d7f,
		"The quick brown fox jumps over the lazy dog": 0x414fa339,
		"\x00":                     0xd202ef8d,
		"\xff":                     0xff000000,
		"\xff\xff\xff\xff":         0xffffffff,
		strings.Repeat("\x00", 32): 0x190a55ad,
		strings.Repeat("\xff", 32): 0xff6cab0b,
	} {
		if got := crc.Sum([]byte(text)); got != want {
			t.Errorf("%q: %08x, not %08x", text, got, want)
		}
	}
}

func TestSumOfNoBytes(t *testing.T) {
	if a, b := crc.Sum(nil), crc.Sum([]byte{}); a != 0 || b != 0 {
		t.Fatal(a, b)
	}
}

func TestSumOfEachByte(t *testing.T) {
	for c := range 256 {
		for _, b := range [][]byte{{byte(c)}, {0, byte(c)}, {byte(c), 0}, {0xff, byte(c), 0xff}} {
			if got, want := crc.Sum(b), told(b); got != want {
				t.Fatalf("%x: %08x, not %08x", b, got, want)
			}
		}
	}
}

func TestSumOfEachLength(t *testing.T) {
	for n := range 600 {
		b := some(n)
		if got, want := crc.Sum(b), told(b); got != want {
			t.Fatalf("%d bytes: %08x, not %08x", n, got, want)
		}
	}
}

func TestSumOfManyBytes(t *testing.T) {
	for _, n := range []int{1<<16 - 1, 1 << 16, 1<<16 + 1, 1<<24 + 3} {
		b := some(n)
		if got, want := crc.Sum(b), told(b); got != want {
			t.Fatalf("%d bytes: %08x, not %08x", n, got, want)
		}
	}
}

func TestMoreOfAnySum(t *testing.T) {
	for _, sum := range edges {
		for n := range 40 {
			b := some(n)
			if got, want := crc.More(sum, b), ^taken(^sum, b); got != want {
				t.Fatalf("%08x and %d bytes: %08x, not %08x", sum, n, got, want)
			}
		}
	}
}

func TestMoreOfNoBytes(t *testing.T) {
	for _, sum := range edges {
		if a, b := crc.More(sum, nil), crc.More(sum, []byte{}); a != sum || b != sum {
			t.Fatalf("%08x: %08x, %08x", sum, a, b)
		}
	}
}

func TestMoreOfTwoParts(t *testing.T) {
	b := some(300)
	want := crc.Sum(b)
	for i := range len(b) + 1 {
		if got := crc.More(crc.Sum(b[:i]), b[i:]); got != want {
			t.Fatalf("cut at %d: %08x, not %08x", i, got, want)
		}
	}
}

func TestMoreOfManyParts(t *testing.T) {
	b := some(1000)
	want := crc.Sum(b)
	for size := 1; size <= len(b); size++ {
		sum := uint32(0)
		for rest := b; len(rest) > 0; {
			n := min(size, len(rest))
			sum = crc.More(sum, rest[:n])
			sum = crc.More(sum, rest[:0])
			rest = rest[n:]
		}
		if sum != want {
			t.Fatalf("parts of %d: %08x, not %08x", size, sum, want)
		}
	}
}

// The four bytes of a sum that are laid behind what has it, the lowest first,
// leave one remainder, whatever the bytes were.
func TestMoreOfItsOwnSum(t *testing.T) {
	for n := range 100 {
		sum := crc.Sum(some(n))
		tail := []byte{byte(sum), byte(sum >> 8), byte(sum >> 16), byte(sum >> 24)}
		if got := crc.More(sum, tail); got != 0x2144df1c {
			t.Fatalf("%d bytes: %08x", n, got)
		}
	}
}

// P3.2

// turned turns the bits of b from a place on that a pattern has; a byte's
// lowest bit is its first.
func turned(b []byte, from int, pattern uint64) []byte {
	out := bytes.Clone(b)
	for i := range 64 {
		if pattern>>i&1 != 0 {
			out[(from+i)/8] ^= 1 << ((from + i) % 8)
		}
	}
	return out
}

func TestBitsInARowTurned(t *testing.T) {
	for _, n := range []int{1, 2, 3, 4, 5, 8, 9, 40} {
		b := some(n)
		sum := crc.Sum(b)
		for from := range 8 * n {
			for count := 1; count <= 32 && from+count <= 8*n; count++ {
				if crc.Sum(turned(b, from, 1<<count-1)) == sum {
					t.Fatalf("%d bytes: %d bits from %d on", n, count, from)
				}
			}
		}
	}
}

func TestSomeBitsWithinARowTurned(t *testing.T) {
	b := some(24)
	sum := crc.Sum(b)
	v := uint64(1)
	for from := range 8*len(b) - 32 {
		for range 200 {
			v = v*6364136223846793005 + 1442695040888963407
			if pattern := v >> 32; pattern != 0 && crc.Sum(turned(b, from, pattern)) == sum {
				t.Fatalf("%08x from %d on", pattern, from)
			}
		}
	}
}

// What turning one bit does to a sum hangs on its place alone, and that of many
// is that of each, put together by exclusive or. So no bits of a row of 32 leave
// the sum as it is if none of the 32 differences is made of others.
func TestAllPatternsOfARow(t *testing.T) {
	for _, n := range []int{4, 5, 12, 100} {
		b := some(n)
		sum := crc.Sum(b)
		for from := range 8*n - 31 {
			var by [32]uint32 // differences, each with a highest bit of its own
			for i := range 32 {
				if !put(&by, crc.Sum(turned(b, from+i, 1))^sum) {
					t.Fatalf("%d bytes: the bit %d behind %d is made of others", n, i, from)
				}
			}
		}
	}
}

// put takes out of a difference those that are there, and tells whether
// something is left.
func put(by *[32]uint32, d uint32) bool {
	for i := 31; i >= 0; i-- {
		switch {
		case d>>i&1 == 0:
		case by[i] == 0:
			by[i] = d
			return true
		default:
			d ^= by[i]
		}
	}
	return false
}

func TestTurnedInManyBytes(t *testing.T) {
	b := some(1 << 20)
	sum := crc.Sum(b)
	for _, from := range []int{0, 7, 8*len(b)/2 - 3, 8*len(b) - 32} {
		for _, pattern := range []uint64{1, 3, 0x80000000, 0x80000001, 0xffffffff, 0xedb88320, 0xaaaaaaaa, 0xdb710641} {
			if crc.Sum(turned(b, from, pattern)) == sum {
				t.Fatalf("%08x from %d on", pattern, from)
			}
		}
	}
}

// The polynomial has 33 bits: with it turned, the sum is as it was. So 32 are
// as many as can be promised, and this is the polynomial.
func TestThirtyThreeBitsOfThePolynomial(t *testing.T) {
	b := some(20)
	sum := crc.Sum(b)
	for from := range 8*len(b) - 32 {
		if got := crc.Sum(turned(b, from, 0x1db710641)); got != sum {
			t.Fatalf("from %d on: %08x, not %08x", from, got, sum)
		}
	}
}

func TestTurnedInAPart(t *testing.T) {
	b := some(64)
	sum := crc.Sum(b)
	for from := range 8*len(b) - 32 {
		c := turned(b, from, 0x80000001)
		if crc.More(crc.Sum(c[:30]), c[30:]) == sum {
			t.Fatalf("from %d on", from)
		}
	}
}

// R4, R7

func TestBytesAreOnlyRead(t *testing.T) {
	room := some(40)
	b := room[8:24:32]
	was := bytes.Clone(room)
	sum, more := crc.Sum(b), crc.More(5, b)
	if !bytes.Equal(room, was) {
		t.Fatal("the bytes were changed")
	}
	for i := range room {
		if i < 8 || i >= 24 {
			room[i] ^= 0xff
		}
	}
	if crc.Sum(b) != sum || crc.More(5, b) != more {
		t.Fatal("what lies beside the bytes counts")
	}
	room[8] ^= 1
	if crc.Sum(b) == sum || sum != told(was[8:24]) {
		t.Fatal("the bytes were kept")
	}
}

func TestSameAnswerEachTime(t *testing.T) {
	b := some(50)
	sum := crc.Sum(b)
	for range 3 {
		crc.More(sum, some(9))
		if got := crc.Sum(b); got != sum {
			t.Fatalf("%08x, not %08x", got, sum)
		}
	}
}
