package sha_test

import (
	"bytes"
	"crypto/sha256"
	"encoding/hex"
	"slices"
	"strings"
	"sync"
	"testing"

	"estreat/api"
	"estreat/sha"
)

// some makes n bytes by a short rule.
func some(n int) []byte {
	b := make([]byte, n)
	v := uint64(n) + 88172645463325252
	for i := range b {
		v ^= v << 13
		v ^= v >> 7
		v ^= v << 17
		b[i] = byte(v >> 24)
	}
	return b
}

// joined is parts of bytes one behind the other, in memory of its own.
func joined(parts ...[]byte) []byte {
	return bytes.Join(parts, nil)
}

func wantSum(t *testing.T, b []byte) {
	t.Helper()
	if got, want := sha.Sum(b), api.Hash(sha256.Sum256(b)); got != want {
		t.Fatalf("%.20x (%d bytes): %x, not %x", b, len(b), got, want)
	}
}

// wantTagged looks for the digest of the tag and all parts as one.
func wantTagged(t *testing.T, tag byte, parts ...[]byte) {
	t.Helper()
	b := append([]byte{tag}, joined(parts...)...)
	if got, want := sha.Tagged(tag, parts...), api.Hash(sha256.Sum256(b)); got != want {
		t.Fatalf("%.20x (%d parts, %d bytes): %x, not %x", b, len(parts), len(b), got, want)
	}
}

// P5.1: Sum

func TestSumOfKnownTexts(t *testing.T) {
	for text, want := range map[string]string{
		"":    "e3b0c44298fc1c149afbf4c8996fb92427ae41e4649b934ca495991b7852b855",
		"abc": "ba7816bf8f01cfea414140de5dae2223b00361a396177a9cb410ff61f20015ad",
		"abcdbcdecdefdefgefghfghighijhijkijkljklmklmnlmnomnopnopq":                                                         "248d6a61d20638b8e5c026930c3e6039a33ce45964ff2167f6ecedd419db06c1",
		"abcdefghbcdefghicdefghijdefghijkefghijklfghijklmghijklmnhijklmnoijklmnopjklmnopqklmnopqrlmnopqrsmnopqrstnopqrstu": "cf5b16a778af8380036ce59e7b0492370b249b11e8f07a51afac45037afee9d1",
		strings.Repeat("a", 1000000): "cdc76e5c9914fb9281a1c7e284d73e67f1809a48a497200e046d39ccc7112cd0",
	} {
		if got := sha.Hex(sha.Sum([]byte(text))); got != want {
			t.Errorf("%.20q: %s, not %s", text, got, want)
		}
	}
}

func TestSumOfNoBytes(t *testing.T) {
	for _, b := range [][]byte{nil, {}} {
		h := sha.Sum(b)
		if !bytes.HasPrefix(h[:], []byte{0xe3, 0xb0, 0xc4, 0x42}) {
			t.Fatalf("%x", h)
		}
		wantSum(t, b)
	}
}

func TestSumOfEachByte(t *testing.T) {
	for c := range 256 {
		for _, n := range []int{1, 2, 32, 64, 100} {
			wantSum(t, bytes.Repeat([]byte{byte(c)}, n))
		}
	}
}

// TestSumOfEachLength has those where the filling needs a further block, 56 to
// 63 bytes above any multiple of 64, and those about them.
func TestSumOfEachLength(t *testing.T) {
	for n := range 1100 {
		wantSum(t, some(n))
		wantSum(t, make([]byte, n))
		wantSum(t, bytes.Repeat([]byte{0xff}, n))
	}
}

func TestSumOfManyBytes(t *testing.T) {
	for _, n := range []int{1<<13 - 1, 1 << 13, 1<<16 - 9, 1<<16 - 8, 1 << 16, 1<<16 + 55, 1<<16 + 56, 1<<21 + 3} {
		wantSum(t, some(n))
	}
}

// Bytes that look like what others are filled up with aren't taken for it.
func TestSumOfFilledBytes(t *testing.T) {
	seen := map[api.Hash]int{}
	for n := range 130 {
		b := append(some(20), 0x80)
		b = append(b, make([]byte, n)...)
		wantSum(t, b)
		wantSum(t, append(b, 160))
		seen[sha.Sum(b)]++
	}
	if len(seen) != 130 {
		t.Fatalf("%d digests of 130 texts", len(seen))
	}
}

// P5.1: Tagged

func TestTaggedWithoutParts(t *testing.T) {
	for tag := range 256 {
		wantTagged(t, byte(tag))
		if got := sha.Tagged(byte(tag), [][]byte{}...); got != sha.Sum([]byte{byte(tag)}) {
			t.Fatalf("tag %d: %x", tag, got)
		}
	}
}

func TestTaggedWithEmptyParts(t *testing.T) {
	for _, tag := range []byte{0, 1, 0x7f, 0x80, 0xff} {
		wantTagged(t, tag, nil)
		wantTagged(t, tag, []byte{})
		wantTagged(t, tag, nil, []byte{}, nil)
		for _, n := range []int{1, 54, 55, 62, 63, 64, 126, 127, 128, 300} {
			p := some(n)
			wantTagged(t, tag, p)
			wantTagged(t, tag, nil, p)
			wantTagged(t, tag, p, nil)
			wantTagged(t, tag, p, []byte{}, p)
			wantTagged(t, tag, nil, p, []byte{}, nil, p, nil)
		}
	}
}

func TestTaggedOfEachLength(t *testing.T) {
	for n := range 400 {
		wantTagged(t, byte(n), some(n))
	}
}

func TestTaggedOfPartsCutAnywhere(t *testing.T) {
	for _, n := range []int{1, 2, 54, 55, 56, 62, 63, 64, 65, 118, 119, 126, 127, 128, 129, 260} {
		b := some(n)
		want := sha.Sum(append([]byte{9}, b...))
		for i := range n + 1 {
			if got := sha.Tagged(9, b[:i], b[i:]); got != want {
				t.Fatalf("%d bytes cut at %d: %x, not %x", n, i, got, want)
			}
			for k := i; k <= n; k++ {
				if got := sha.Tagged(9, b[:i], b[i:k], b[k:]); got != want {
					t.Fatalf("%d bytes cut at %d and %d: %x, not %x", n, i, k, got, want)
				}
			}
		}
	}
}

func TestTaggedOfPartsOfEachSize(t *testing.T) {
	b := some(700)
	for size := 1; size <= 200; size++ {
		wantTagged(t, 3, slices.Collect(slices.Chunk(b, size))...)
	}
}

func TestTaggedOfManyParts(t *testing.T) {
	parts := make([][]byte, 100000)
	for i := range parts {
		parts[i] = []byte{byte(i), byte(i >> 8)}[:i%3]
	}
	wantTagged(t, 200, parts...)
}

// TestTaggedOfManyBits has as many bytes as need a fifth byte to tell the
// number of their bits.
func TestTaggedOfManyBits(t *testing.T) {
	part := some(1 << 20)
	parts := make([][]byte, 1<<9)
	all := sha256.New()
	all.Write([]byte{7})
	for i := range parts {
		parts[i] = part
		all.Write(part)
	}
	if got, want := sha.Tagged(7, parts...), api.Hash(all.Sum(nil)); got != want {
		t.Fatalf("%x, not %x", got, want)
	}
}

func TestTheTagCounts(t *testing.T) {
	seen := map[api.Hash]bool{}
	for tag := range 256 {
		seen[sha.Tagged(byte(tag), []byte("abc"))] = true
	}
	if len(seen) != 256 || seen[sha.Sum([]byte("abc"))] {
		t.Fatalf("%d digests of 256 tags", len(seen))
	}
}

// P5.1: Hex

func TestHexOfKnownDigests(t *testing.T) {
	for want, h := range map[string]api.Hash{
		strings.Repeat("00", 32):                                           {},
		"01" + strings.Repeat("00", 30) + "f0":                             {0: 1, 31: 0xf0},
		"000f107f80ffabcdef" + strings.Repeat("00", 23):                    {0, 0x0f, 0x10, 0x7f, 0x80, 0xff, 0xab, 0xcd, 0xef},
		"0123456789abcdef" + strings.Repeat("00", 16) + "fedcba9876543210": {0x01, 0x23, 0x45, 0x67, 0x89, 0xab, 0xcd, 0xef, 24: 0xfe, 25: 0xdc, 26: 0xba, 27: 0x98, 28: 0x76, 29: 0x54, 30: 0x32, 31: 0x10},
	} {
		if got := sha.Hex(h); got != want {
			t.Errorf("%x: %s, not %s", h, got, want)
		}
	}
}

func TestHexOfEachByte(t *testing.T) {
	for c := range 256 {
		for i := range 32 {
			h := api.Hash{}
			h[i] = byte(c)
			if got, want := sha.Hex(h), hex.EncodeToString(h[:]); got != want {
				t.Fatalf("%s, not %s", got, want)
			}
		}
		h := api.Hash(bytes.Repeat([]byte{byte(c)}, 32))
		if got, want := sha.Hex(h), hex.EncodeToString(h[:]); got != want {
			t.Fatalf("%s, not %s", got, want)
		}
	}
}

// R4, R7

func TestWhatIsHandedInStays(t *testing.T) {
	room := some(400)
	was := bytes.Clone(room)
	parts := [][]byte{room[3:10], nil, room[10:10], room[20:90], room[100:230], {}}
	held := slices.Clone(parts)
	sum, tagged := sha.Sum(room[5:130]), sha.Tagged(1, parts...)
	if !bytes.Equal(room, was) {
		t.Fatal("the bytes were changed")
	}
	for i, p := range parts {
		if len(p) != len(held[i]) || cap(p) != cap(held[i]) || (p == nil) != (held[i] == nil) {
			t.Fatalf("part %d was changed", i)
		}
	}
	clear(room)
	clear(parts)
	if sum != api.Hash(sha256.Sum256(was[5:130])) || tagged != sha.Sum(joined([]byte{1}, was[3:10], was[20:90], was[100:230])) {
		t.Fatal("an answer hangs on what was handed in")
	}
}

func TestWhatLiesBehindTheLengthIsNotRead(t *testing.T) {
	room := some(300)
	for n := range 200 {
		sum, tagged := sha.Sum(room[:n]), sha.Tagged(1, room[:n], room[:n/2])
		other := joined(room[:n], make([]byte, 100))
		if sha.Sum(other[:n]) != sum || sha.Tagged(1, other[:n], other[:n/2]) != tagged {
			t.Fatalf("what lies behind %d bytes counts", n)
		}
	}
}

func TestSameAnswerEachTime(t *testing.T) {
	for n := range 150 {
		b := some(n)
		sum, tagged := sha.Sum(b), sha.Tagged(5, b, b)
		text := sha.Hex(sum)
		for range 3 {
			sha.Tagged(6, some(n+1))
			if sha.Sum(b) != sum || sha.Tagged(5, b, b) != tagged || sha.Hex(sum) != text {
				t.Fatalf("%d bytes: another answer", n)
			}
		}
	}
}

func TestAnswersFromSeveralGoroutines(t *testing.T) {
	b := some(1000)
	sum, tagged := sha.Sum(b), sha.Tagged(5, b, b)
	var all sync.WaitGroup
	for range 4 {
		all.Go(func() {
			for range 200 {
				if sha.Sum(b) != sum || sha.Tagged(5, b, b) != tagged {
					t.Error("another answer")
					return
				}
			}
		})
	}
	all.Wait()
}
