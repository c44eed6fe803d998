package ledger_test

import (
	"crypto/sha256"
	"encoding/binary"
	"encoding/hex"
	"math"
	"slices"
	"strconv"
	"testing"

	"estreat/api"
	"estreat/ledger"
)

// most is up to how many entries each number of them is looked at.
const most = 40

// mostGroups is MaxGroups by the words of the document.
const mostGroups = 1 << 20

// chance is a number that looks like any other, the same at each call.
func chance(i int) uint64 {
	v := uint64(i+1) * 6364136223846793005
	v ^= v >> 29
	v *= 2862933555777941757
	return v ^ v>>32
}

// digest is the i-th of many that look like any.
func digest(i int) api.Hash {
	return sha256.Sum256([]byte("digest " + strconv.Itoa(i)))
}

// filled is 32 times the same byte.
func filled(b byte) (h api.Hash) {
	for i := range h {
		h[i] = b
	}
	return h
}

// turned is h with one bit another.
func turned(h api.Hash, bit int) api.Hash {
	h[bit/8] ^= 1 << (bit % 8)
	return h
}

// groups is numbers of groups that an entry may have, those where their short number
// grows by a byte among them.
func groups() []int {
	return []int{0, 1, 2, 3, 126, 127, 128, 129, 255, 256, 300, 1<<14 - 1, 1 << 14, 1<<14 + 1, 65535, 65536, mostGroups - 1, mostGroups}
}

// noGroups is numbers of groups that no entry may have.
func noGroups() []int {
	return []int{
		-1, -2, -127, -128, -1 << 20, -1<<20 - 1, -1 << 31, -1 << 32, -1<<32 + 1, math.MinInt, math.MinInt + 1, math.MinInt + mostGroups,
		mostGroups + 1, mostGroups + 2, 1<<21 - 1, 1 << 21, 1<<31 - 1, 1 << 31, 1 << 32, 1<<32 + 1, 1<<32 + mostGroups, 1 << 40, math.MaxInt - 1, math.MaxInt,
	}
}

// entry is the i-th of many that are unlike.
func entry(i int) api.Entry {
	g := groups()
	return api.Entry{Schema: digest(2 * i), Groups: g[i%len(g)], Root: digest(2*i + 1)}
}

// unlike is n entries of which no two are the same.
func unlike(n int) []api.Entry {
	l := make([]api.Entry, n)
	for i := range l {
		l[i] = entry(i)
	}
	return l
}

// again is n entries that are the same again and again, by so many.
func again(n, of int) []api.Entry {
	return slices.Repeat(unlike(of), n/of+1)[:n]
}

// lists is entries of so many, unlike ones and such as are the same in some way.
func lists(n int) [][]api.Entry {
	return [][]api.Entry{unlike(n), again(n, 1), again(n, 2), again(n, 3), again(n, 4), make([]api.Entry, n)}
}

// outside is numbers that aren't from 0 to n.
func outside(n int) []int {
	return []int{-1, -2, -3, -n - 1, -1 << 32, -1 << 40, math.MinInt, math.MinInt + 1, math.MinInt + n, n + 1, n + 2, n + n + 1, n + 64, n + 1<<16, n + 1<<32, n + 1<<40, math.MaxInt - 1, math.MaxInt}
}

// of is a ledger of these entries.
func of(t *testing.T, entries []api.Entry) *ledger.Ledger {
	t.Helper()
	l := ledger.New()
	for i, e := range entries {
		if got := l.Add(e); got != api.OK {
			t.Fatalf("entry %d of %d: error %d", i, len(entries), got)
		}
	}
	return l
}

// What the document's words tell, by the library's digests.

func tagged(tag byte, parts ...[]byte) api.Hash {
	return sha256.Sum256(append([]byte{tag}, slices.Concat(parts...)...))
}

func nodeBy(a, b api.Hash) api.Hash {
	return tagged(1, a[:], b[:])
}

func formBy(e api.Entry) []byte {
	return append(binary.AppendUvarint(slices.Clone(e.Schema[:]), uint64(e.Groups)), e.Root[:]...)
}

func formsBy(entries []api.Entry) [][]byte {
	l := make([][]byte, len(entries))
	for i, e := range entries {
		l[i] = formBy(e)
	}
	return l
}

func leavesBy(entries []api.Entry) []api.Hash {
	l := make([]api.Hash, len(entries))
	for i, b := range formsBy(entries) {
		l[i] = tagged(0, b)
	}
	return l
}

// rootBy goes up from the leaves, two by two; what has no other goes up by itself.
func rootBy(entries []api.Entry) api.Hash {
	l := leavesBy(entries)
	if len(l) == 0 {
		return sha256.Sum256(nil)
	}
	for len(l) > 1 {
		l = paired(l)
	}
	return l[0]
}

func paired(l []api.Hash) []api.Hash {
	var up []api.Hash
	for len(l) > 1 {
		up, l = append(up, nodeBy(l[0], l[1])), l[2:]
	}
	return append(up, l...)
}

// pathBy goes up from the leaves, too.
func pathBy(entries []api.Entry, i int) []api.Hash {
	var path []api.Hash
	for l := leavesBy(entries); len(l) > 1; l, i = paired(l), i/2 {
		if other := i ^ 1; other < len(l) {
			path = append(path, l[other])
		}
	}
	return path
}

func splitBy(n int) int {
	k := 1
	for n-k > k {
		k += k
	}
	return k
}

func proofBy(entries []api.Entry, m int, part bool) []api.Hash {
	n := len(entries)
	if m == n && part {
		return []api.Hash{rootBy(entries)}
	}
	if m == 0 || m == n {
		return nil
	}
	k := splitBy(n)
	if m <= k {
		return append(proofBy(entries[:k], m, part), rootBy(entries[k:]))
	}
	return append(proofBy(entries[k:], m-k, true), rootBy(entries[:k]))
}

func headOfBy(size int, root api.Hash) api.Hash {
	return tagged(3, binary.LittleEndian.AppendUint64(nil, uint64(size)), root[:])
}

func headBy(entries []api.Entry) api.Hash {
	return headOfBy(len(entries), rootBy(entries))
}

// The models tell what another program told of such entries.
func TestTheModels(t *testing.T) {
	for n, x := range knownHeads() {
		root, head := rootBy(knownEntries()[:n]), headBy(knownEntries()[:n])
		if hex.EncodeToString(root[:]) != x.root || hex.EncodeToString(head[:]) != x.head {
			t.Errorf("%d entries: %x and %x, not %s and %s", n, root, head, x.root, x.head)
		}
	}
}

func knownEntries() []api.Entry {
	var l []api.Entry
	for i, g := range []int{0, 1, 300, mostGroups, 0} {
		l = append(l, api.Entry{Schema: filled(byte(i)), Groups: g, Root: filled(0xf0 + byte(i))})
	}
	return l
}

type knownHead struct{ root, head string }

// knownHeads are of the first so many of the known entries.
func knownHeads() []knownHead {
	return []knownHead{
		{"e3b0c44298fc1c149afbf4c8996fb92427ae41e4649b934ca495991b7852b855", "d7e89abb31bc03c6dec5485252b78428d2a11b6ac2f852cd75274b2718e47b57"},
		{"bdedc5eeb3d2db983cbc8d0b0bc5557fcacf2a149f127cd03b6ecc230f30c37e", "c0b9c57572614978dced2585556748b413c392e81a55efa322c61694f9d2863a"},
		{"b73e07ed88a7ba5afd73f46c44cc7c5bc99ad789241598ad7ec8da18ef6bca50", "b57ebee05dee2f3f9045def5f8b29edd329b467d052b6466e27cfc376325d75a"},
		{"fb6e2fc8f5aec7498eff16363c53d0346453ffe137a77823e5647efa4bf6c9b7", "d4e0cbfb458a5f7f226a2eccf2765d9a90a2a34d56a6e151f650884ab4b146aa"},
		{"f42719273b46ebefeb852afd754828acb5f353abbc580758730fe9fa130eb0d7", "8d8b9399b2c969567c7513570c6eb5c46088dc8331377fe8964c0a3003ea41ce"},
		{"d6f212d0dc315fb93ffbab77f647652b200b64a16e2ada1dca76c4b9287fdd16", "59ae9093aee0c2e3cb046b5a8ab0a496c6a5b863f1cf8906aeadadc7c1005e2c"},
	}
}
