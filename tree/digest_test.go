package tree_test

import (
	"bytes"
	"math"
	"slices"
	"testing"

	"estreat/api"
	"estreat/sha"
	"estreat/tree"
)

// P19.1: Leaf

func wantLeaf(t *testing.T, b []byte) {
	t.Helper()
	got := tree.Leaf(b)
	if want := sha.Tagged(0, b); got != want || want != tagged(0, b) {
		t.Fatalf("%.20x (%d bytes): %x, not %x", b, len(b), got, want)
	}
}

func TestLeafOfNoBytes(t *testing.T) {
	wantLeaf(t, nil)
	wantLeaf(t, []byte{})
	if tree.Leaf(nil) != tree.Leaf([]byte{}) || tree.Leaf(nil) == sha.Sum(nil) {
		t.Fatalf("%x", tree.Leaf(nil))
	}
	if got := sha.Hex(tree.Leaf(nil)); got != knownRoots()[1] {
		t.Fatal(got)
	}
}

func TestLeafOfSomeBytes(t *testing.T) {
	for n := range 300 {
		wantLeaf(t, some(n))
		wantLeaf(t, make([]byte, n))
		wantLeaf(t, bytes.Repeat([]byte{1}, n))
	}
	for c := range 256 {
		wantLeaf(t, []byte{byte(c)})
	}
	wantLeaf(t, some(1<<20))
}

// P19.1: Node

func wantNode(t *testing.T, a, b api.Hash) {
	t.Helper()
	got := tree.Node(a, b)
	if want := sha.Tagged(1, a[:], b[:]); got != want || want != nodeBy(a, b) {
		t.Fatalf("%x, %x: %x, not %x", a, b, got, want)
	}
}

func TestNode(t *testing.T) {
	zero, full := api.Hash{}, api.Hash(bytes.Repeat([]byte{0xff}, 32))
	for _, a := range []api.Hash{zero, full, digest(1), digest(2), {0: 1}, {31: 1}} {
		for _, b := range []api.Hash{zero, full, digest(1), digest(3), {0: 1}, {31: 1}} {
			wantNode(t, a, b)
			wantNode(t, b, a)
			if (tree.Node(a, b) == tree.Node(b, a)) != (a == b) {
				t.Fatalf("%x, %x: the order doesn't count", a, b)
			}
		}
	}
}

func TestEachByteOfANodeCounts(t *testing.T) {
	a, b := digest(1), digest(2)
	was := tree.Node(a, b)
	for i := range a {
		for bit := range 8 {
			c, d := a, b
			c[i] ^= 1 << bit
			d[i] ^= 1 << bit
			wantNode(t, c, b)
			wantNode(t, a, d)
			if tree.Node(c, b) == was || tree.Node(a, d) == was {
				t.Fatalf("bit %d of byte %d doesn't count", bit, i)
			}
		}
	}
}

func TestALeafIsNoNode(t *testing.T) {
	for i := range 50 {
		a, b := digest(i), digest(i+1)
		both := slices.Concat(a[:], b[:])
		if tree.Leaf(both) == tree.Node(a, b) {
			t.Fatalf("%x: the leaf is the node", both)
		}
		wantLeaf(t, both)
		wantLeaf(t, append([]byte{1}, both...))
	}
}

// P19.1: Split

func TestSplitOfNoHalves(t *testing.T) {
	for _, n := range []int{math.MinInt, math.MinInt + 1, -1 << 40, -1 << 32, -1 << 31, -65, -64, -4, -3, -2, -1, 0, 1} {
		if k := tree.Split(n); k != 0 {
			t.Errorf("%d: %d", n, k)
		}
	}
}

func TestSplitOfSmallNumbers(t *testing.T) {
	for i, want := range []int{1, 2, 2, 4, 4, 4, 4, 8, 8, 8, 8, 8, 8, 8, 8, 16} {
		if k := tree.Split(i + 2); k != want {
			t.Errorf("%d: %d, not %d", i+2, k, want)
		}
	}
	for n := 2; n < 70000; n++ {
		if k := tree.Split(n); k != splitBy(n) {
			t.Fatalf("%d: %d, not %d", n, k, splitBy(n))
		}
	}
}

func TestSplitAboutPowersOfTwo(t *testing.T) {
	for e := 1; e < 63; e++ {
		p := 1 << e
		if k := tree.Split(p); k != p/2 {
			t.Errorf("2^%d: %d", e, k)
		}
		if k := tree.Split(p + 1); k != p {
			t.Errorf("2^%d + 1: %d", e, k)
		}
		if k := tree.Split(p + p - 1); k != p {
			t.Errorf("2^%d - 1: %d", e+1, k)
		}
		if k := tree.Split(p + p/2); k != p {
			t.Errorf("2^%d + 2^%d: %d", e, e-1, k)
		}
	}
	for _, n := range []int{math.MaxInt, math.MaxInt - 1, 1<<62 + 1} {
		if k := tree.Split(n); k != 1<<62 {
			t.Errorf("%d: %d", n, k)
		}
	}
}
