package tree_test

import (
	"crypto/sha256"
	"encoding/hex"
	"math/bits"
	"slices"
	"strconv"
	"testing"

	"estreat/api"
)

// most is up to how many leaves each number of them is looked at.
const most = 72

// chance is a number that looks like any other, the same at each call.
func chance(i int) uint64 {
	v := uint64(i+1) * 6364136223846793005
	v ^= v >> 29
	v *= 2862933555777941757
	return v ^ v>>32
}

// some is n bytes that look like any.
func some(n int) []byte {
	b := make([]byte, n)
	for i := range b {
		b[i] = byte(chance(n<<16 + i))
	}
	return b
}

// digest is the i-th of many that look like any.
func digest(i int) api.Hash {
	return sha256.Sum256([]byte("digest " + strconv.Itoa(i)))
}

// unlike is n leaves of which no two are the same, one empty one among them.
func unlike(n int) [][]byte {
	l := make([][]byte, n)
	for i := range l {
		l[i] = append(some(i*7%100), strconv.Itoa(i)...)
	}
	if n > 0 {
		l[n/2] = nil
	}
	return l
}

// like is n leaves that are the same.
func like(n int, b []byte) [][]byte {
	l := make([][]byte, n)
	for i := range l {
		l[i] = slices.Clone(b)
	}
	return l
}

// What the document's words tell, by the library's digests.

func tagged(tag byte, parts ...[]byte) api.Hash {
	return sha256.Sum256(append([]byte{tag}, slices.Concat(parts...)...))
}

func nodeBy(a, b api.Hash) api.Hash {
	return tagged(1, a[:], b[:])
}

// splitBy is the greatest power of two below n, of at least 2.
func splitBy(n int) int {
	k := 1
	for n-k > k {
		k += k
	}
	return k
}

func rootBy(leaves [][]byte) api.Hash {
	switch n := len(leaves); n {
	case 0:
		return sha256.Sum256(nil)
	case 1:
		return tagged(0, leaves[0])
	default:
		k := splitBy(n)
		return nodeBy(rootBy(leaves[:k]), rootBy(leaves[k:]))
	}
}

func pathBy(leaves [][]byte, i int) []api.Hash {
	n := len(leaves)
	if n == 1 {
		return nil
	}
	k := splitBy(n)
	if i < k {
		return append(pathBy(leaves[:k], i), rootBy(leaves[k:]))
	}
	return append(pathBy(leaves[k:], i-k), rootBy(leaves[:k]))
}

// depthBy reckons without going down: the leaf and the last one stand in the same
// part but for the steps in which their places have unlike bits, and above these
// there is a step for each whole part that is ahead of it.
func depthBy(i, n int) int {
	if i < 0 || i >= n {
		return -1
	}
	within := bits.Len64(uint64(i) ^ uint64(n-1))
	return within + bits.OnesCount64(uint64(i)>>within)
}

// foldBy goes up from the leaf: at each step its part is the right one of two, the
// left one, or the last one of its size, which goes up without another.
func foldBy(leaf api.Hash, i, n int, path []api.Hash) (api.Hash, bool) {
	if n < 1 || n > 1<<40 || i < 0 || i >= n {
		return api.Hash{}, false
	}
	h, place, last := leaf, i, n-1
	for last > 0 {
		if place == last && place%2 == 0 {
			place, last = place/2, last/2
			continue
		}
		if len(path) == 0 {
			return api.Hash{}, false
		}
		if place%2 == 1 {
			h = nodeBy(path[0], h)
		} else {
			h = nodeBy(h, path[0])
		}
		path, place, last = path[1:], place/2, last/2
	}
	if len(path) > 0 {
		return api.Hash{}, false
	}
	return h, true
}

// Of known texts all models tell what is known of such trees.
func TestTheModels(t *testing.T) {
	leaves := knownLeaves(t)
	for n, want := range knownRoots() {
		root := rootBy(leaves[:n])
		if hex.EncodeToString(root[:]) != want {
			t.Fatalf("%d leaves: %x, not %s", n, root, want)
		}
		for i := range n {
			path := pathBy(leaves[:n], i)
			if len(path) != depthBy(i, n) {
				t.Fatalf("leaf %d of %d: a path of %d, not %d", i, n, len(path), depthBy(i, n))
			}
			if h, ok := foldBy(tagged(0, leaves[i]), i, n, path); !ok || h != root {
				t.Fatalf("leaf %d of %d folds to %x, %v, not %x", i, n, h, ok, root)
			}
		}
	}
}

// knownLeaves are those that others build such trees of, too.
func knownLeaves(t *testing.T) [][]byte {
	t.Helper()
	var l [][]byte
	for _, text := range []string{"", "00", "10", "2021", "3031", "40414243", "5051525354555657", "606162636465666768696a6b6c6d6e6f"} {
		b, err := hex.DecodeString(text)
		if err != nil {
			t.Fatal(err)
		}
		l = append(l, b)
	}
	return l
}

// knownRoots are the roots of the first so many of the known leaves.
func knownRoots() []string {
	return []string{
		"e3b0c44298fc1c149afbf4c8996fb92427ae41e4649b934ca495991b7852b855",
		"6e340b9cffb37a989ca544e6bb780a2c78901d3fb33738768511a30617afa01d",
		"fac54203e7cc696cf0dfcb42c92a1d9dbaf70ad9e621f4bd8d98662f00e3c125",
		"aeb6bcfe274b70a14fb067a5e5578264db0fa9b51af5e0ba159158f329e06e77",
		"d37ee418976dd95753c1c73862b9398fa2a2cf9b4ff0fdfe8b30cd95209614b7",
		"4e3bbb1f7b478dcfe71fb631631519a3bca12c9aefca1612bfce4c13a86264d4",
		"76e67dadbcdf1e10e1b74ddc608abd2f98dfb16fbce75277b5232a127f2087ef",
		"ddb89be403809e325750d3d263cd78929c2942b7942a34b77e122c9594a74c8c",
		"5dc9da79a70659a9ad559cb701ded9a2ab9d823aad2f4960cfe370eff4604328",
	}
}
