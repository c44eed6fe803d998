package grow_test

import (
	"crypto/sha256"
	"encoding/hex"
	"math"
	"math/bits"
	"slices"
	"strconv"
	"testing"

	"estreat/api"
)

// most is up to how many leaves each number of them is looked at.
const most = 66

// chance is a number that looks like any other, the same at each call.
func chance(i int) uint64 {
	v := uint64(i+1) * 6364136223846793005
	v ^= v >> 29
	v *= 2862933555777941757
	return v ^ v>>32
}

// digest is the i-th of many that look like any.
func digest(i int) api.Hash {
	return sha256.Sum256([]byte("digest " + strconv.Itoa(i)))
}

// digests is so many that look like any.
func digests(n int) []api.Hash {
	l := make([]api.Hash, max(n, 0))
	for i := range l {
		l[i] = digest(i)
	}
	return l
}

// unlike is n leaves of which no two are the same, one empty one among them.
func unlike(n int) [][]byte {
	l := make([][]byte, n)
	for i := range l {
		l[i] = slices.Repeat([]byte(strconv.Itoa(i)+"."), 1+i%30)
	}
	if n > 0 {
		l[n/2] = nil
	}
	return l
}

// like is n leaves that are the same.
func like(n int, b []byte) [][]byte {
	l := make([][]byte, n)
	for i := range l {
		l[i] = slices.Clone(b)
	}
	return l
}

// lists is leaves of so many, unlike ones and such as are the same in some way.
func lists(n int) [][][]byte {
	l := [][][]byte{unlike(n), like(n, nil), like(n, []byte("a"))}
	for _, of := range []int{2, 3, 4} {
		l = append(l, slices.Repeat(unlike(of), n/of+1)[:n])
	}
	return l
}

// outside is numbers that aren't from 0 to n.
func outside(n int) []int {
	return []int{-1, -2, -3, -64, -n - 1, -1 << 32, -1 << 40, math.MinInt, math.MinInt + 1, math.MinInt + n, n + 1, n + 2, n + n + 1, n + 64, n + 1<<16, n + 1<<32, n + 1<<40, math.MaxInt - 1, math.MaxInt}
}

// great is numbers of leaves that nobody has, below the greatest int.
func great() []int {
	l := []int{1e6, 1e9 + 7, 1e12, 1e15, math.MaxInt - 1, math.MaxInt - 2, 0x5555555555555555, 0x2aaaaaaaaaaaaaaa, 1<<62 + 1<<31, 1<<40 + 1<<20, 1<<40 - 1<<20}
	for e := 10; e < 63; e++ {
		l = append(l, 1<<e-1, 1<<e, 1<<e+1)
	}
	for i := range 40 {
		l = append(l, 2+int(chance(i)>>(1+i)))
	}
	return l
}

// beginningsOf is some numbers from 0 to n, those about its splits among them.
func beginningsOf(n int) []int {
	l := []int{0, 1, 2, 3, n, n - 1, n - 2, n / 2, n / 3}
	at := 0
	for left := n; left > 1; {
		k := splitBy(left)
		l = append(l, at+k-1, at+k, at+k+1, at+k/2)
		at, left = at+k, left-k
	}
	for e := 0; 1<<e < n && e < 62; e++ {
		l = append(l, 1<<e, 1<<e-1, n-1<<e)
	}
	for i := range 10 {
		l = append(l, int(chance(i)%uint64(n)))
	}
	return slices.DeleteFunc(l, func(m int) bool { return m < 0 || m > n })
}

// What the document's words tell, by the library's digests.

func tagged(tag byte, parts ...[]byte) api.Hash {
	return sha256.Sum256(append([]byte{tag}, slices.Concat(parts...)...))
}

func nodeBy(a, b api.Hash) api.Hash {
	return tagged(1, a[:], b[:])
}

// splitBy is the greatest power of two below n, of at least 2.
func splitBy(n int) int {
	k := 1
	for n-k > k {
		k += k
	}
	return k
}

func rootBy(leaves [][]byte) api.Hash {
	switch n := len(leaves); n {
	case 0:
		return sha256.Sum256(nil)
	case 1:
		return tagged(0, leaves[0])
	default:
		k := splitBy(n)
		return nodeBy(rootBy(leaves[:k]), rootBy(leaves[k:]))
	}
}

func proofBy(leaves [][]byte, m int, part bool) []api.Hash {
	n := len(leaves)
	if m == n && part {
		return []api.Hash{rootBy(leaves)}
	}
	if m == 0 || m == n {
		return nil
	}
	k := splitBy(n)
	if m <= k {
		return append(proofBy(leaves[:k], m, part), rootBy(leaves[k:]))
	}
	return append(proofBy(leaves[k:], m-k, true), rootBy(leaves[:k]))
}

// sizeBy reckons without going down. The first m leaves end with a whole part, of as
// many leaves as the greatest power of two by which m can be divided: its path has
// so many digests, and if it isn't all of the first m, it stands in the proof itself.
func sizeBy(m, n int) int {
	switch {
	case m < 0 || m > n:
		return -1
	case m == 0 || m == n:
		return 0
	}
	size := depthBy(lastPart(m, n))
	if m&(m-1) != 0 {
		size++
	}
	return size
}

// lastPart is the place of that part among all of its size, and the last one's place.
func lastPart(m, n int) (place, last int) {
	step := bits.TrailingZeros(uint(m))
	return (m - 1) >> step, (n - 1) >> step
}

func depthBy(place, last int) int {
	within := bits.Len(uint(place ^ last))
	return within + bits.OnesCount(uint(place)>>within)
}

// togetherBy goes up from the last whole part of the first m leaves; m isn't 0 or n.
// Each digest that stands to the left of it is of the first m, too.
func togetherBy(m, n int, a api.Hash, proof []api.Hash) (first, all api.Hash, ok bool) {
	if m&(m-1) == 0 {
		proof = slices.Concat([]api.Hash{a}, proof)
	}
	if len(proof) == 0 {
		return first, all, false
	}
	first, all = proof[0], proof[0]
	place, last := lastPart(m, n)
	for _, h := range proof[1:] {
		for last > 0 && place == last && place%2 == 0 {
			place, last = place/2, last/2
		}
		if last == 0 {
			return first, all, false
		}
		if place%2 == 1 {
			first, all = nodeBy(h, first), nodeBy(h, all)
		} else {
			all = nodeBy(all, h)
		}
		place, last = place/2, last/2
	}
	return first, all, last == 0
}

func checkBy(m, n int, a, b api.Hash, proof []api.Hash) bool {
	if n < 0 || n > 1<<40 || m < 0 || m > n {
		return false
	}
	if m == 0 || m == n {
		return len(proof) == 0 && (m == 0 && a == rootBy(nil) || m > 0 && a == b)
	}
	first, all, ok := togetherBy(m, n, a, proof)
	return ok && first == a && all == b
}

// The models tell the same, and what is known of known leaves.
func TestTheModels(t *testing.T) {
	for _, x := range known(t) {
		if got := proofBy(x.leaves, x.m, false); !slices.Equal(got, x.proof) {
			t.Errorf("%d of %d: %x, not %x", x.m, len(x.leaves), got, x.proof)
		}
	}
	for n := range most + 1 {
		leaves := unlike(n)
		for m := range n + 1 {
			proof := proofBy(leaves, m, false)
			if len(proof) != sizeBy(m, n) || !checkBy(m, n, rootBy(leaves[:m]), rootBy(leaves), proof) {
				t.Fatalf("%d of %d: %d digests, not %d", m, n, len(proof), sizeBy(m, n))
			}
			if checkBy(m, n, digest(1), rootBy(leaves), proof) {
				t.Fatalf("%d of %d: of another root", m, n)
			}
		}
	}
}

type knownProof struct {
	leaves [][]byte
	m      int
	proof  []api.Hash
}

// known is what others tell of such leaves, too.
func known(t *testing.T) []knownProof {
	t.Helper()
	var leaves [][]byte
	for _, text := range []string{"", "00", "10", "2021", "3031", "40414243", "5051525354555657", "606162636465666768696a6b6c6d6e6f"} {
		leaves = append(leaves, unhex(t, text))
	}
	of := func(m, n int, texts ...string) knownProof {
		var l []api.Hash
		for _, text := range texts {
			l = append(l, api.Hash(unhex(t, text)))
		}
		return knownProof{leaves[:n], m, l}
	}
	return []knownProof{
		of(1, 1),
		of(1, 8, "96a296d224f285c67bee93c30f8a309157f0daa35dc5b87e410b78630a09cfc7", "5f083f0a1a33ca076a95279832580db3e0ef4584bdff1f54c8a360f50de3031e", "6b47aaf29ee3c2af9af889bc1fb9254dabd31177f16232dd6aab035ca39bf6e4"),
		of(6, 8, "0ebc5d3437fbe2db158b9f126a1d118e308181031d0a949f8dededebc558ef6a", "ca854ea128ed050b41b35ffc1b87b8eb2bde461e9e3b5596ece6b9d5975a0ae0", "d37ee418976dd95753c1c73862b9398fa2a2cf9b4ff0fdfe8b30cd95209614b7"),
		of(2, 5, "5f083f0a1a33ca076a95279832580db3e0ef4584bdff1f54c8a360f50de3031e", "bc1a0643b12e4d2d7c77918f44e0f4f79a838b6cf9ec5b5c283e1f4d88599e6b"),
	}
}

func unhex(t *testing.T, text string) []byte {
	t.Helper()
	b, err := hex.DecodeString(text)
	if err != nil {
		t.Fatal(err)
	}
	return b
}
