package tree_test

import (
	"bytes"
	"slices"
	"testing"

	"estreat/api"
	"estreat/sha"
	"estreat/tree"
)

// P19.1: Root

func wantRoot(t *testing.T, leaves [][]byte) {
	t.Helper()
	if got, want := tree.Root(leaves), rootBy(leaves); got != want {
		t.Fatalf("%d leaves (%.80x): %x, not %x", len(leaves), leaves, got, want)
	}
}

func TestRootOfKnownLeaves(t *testing.T) {
	leaves := knownLeaves(t)
	for n, want := range knownRoots() {
		if got := sha.Hex(tree.Root(leaves[:n])); got != want {
			t.Errorf("%d leaves: %s, not %s", n, got, want)
		}
	}
}

func TestRootOfNone(t *testing.T) {
	for _, leaves := range [][][]byte{nil, {}, unlike(3)[:0]} {
		root := tree.Root(leaves)
		if root != sha.Sum(nil) || !bytes.HasPrefix(root[:], []byte{0xe3, 0xb0, 0xc4, 0x42}) {
			t.Fatalf("%x", root)
		}
	}
}

func TestRootOfOne(t *testing.T) {
	for _, b := range [][]byte{nil, {}, {0}, {1}, some(31), some(64), some(1000)} {
		if got := tree.Root([][]byte{b}); got != sha.Tagged(0, b) {
			t.Fatalf("%x: %x", b, got)
		}
	}
}

func TestRootOfTwoAndThree(t *testing.T) {
	a, b, c := some(3), some(0), some(40)
	x, y, z := sha.Tagged(0, a), sha.Tagged(0, b), sha.Tagged(0, c)
	two := sha.Tagged(1, x[:], y[:])
	if got := tree.Root([][]byte{a, b}); got != two {
		t.Fatalf("two: %x, not %x", got, two)
	}
	if got, want := tree.Root([][]byte{a, b, c}), sha.Tagged(1, two[:], z[:]); got != want {
		t.Fatalf("three: %x, not %x", got, want)
	}
}

func TestRootOfEachNumberOfLeaves(t *testing.T) {
	seen := map[api.Hash]int{}
	for n := range most + 1 {
		leaves := unlike(n)
		wantRoot(t, leaves)
		seen[tree.Root(leaves)]++
	}
	for _, n := range []int{127, 128, 129, 255, 256, 257, 1000, 1023, 1024, 1025, 4097} {
		wantRoot(t, unlike(n))
		seen[tree.Root(unlike(n))]++
	}
	if len(seen) != most+1+11 {
		t.Fatalf("%d roots", len(seen))
	}
}

func TestRootOfLeavesThatAreTheSame(t *testing.T) {
	seen := map[api.Hash]int{}
	for n := range most + 1 {
		for _, b := range [][]byte{nil, {}, {0}, some(50)} {
			wantRoot(t, like(n, b))
			seen[tree.Root(like(n, b))]++
		}
	}
	// A leaf that is nil is one of no bytes.
	if len(seen) != 3*most+1 {
		t.Fatalf("%d roots", len(seen))
	}
	for _, n := range []int{1<<17 - 1, 1 << 17, 1<<17 + 1} {
		wantRoot(t, like(n, []byte("a")))
	}
}

// Halves that are the same, or would be but for one leaf.
func TestRootOfLeavesThatAreTheSameButForOne(t *testing.T) {
	for n := 1; n <= 34; n++ {
		seen := map[api.Hash]int{tree.Root(like(n, []byte("a"))): 1}
		for i := range n {
			leaves := like(n, []byte("a"))
			leaves[i] = []byte("b")
			wantRoot(t, leaves)
			seen[tree.Root(leaves)]++
		}
		if len(seen) != n+1 {
			t.Fatalf("%d leaves: %d roots", n, len(seen))
		}
	}
}

// Leaves that come again and again, some of them cut off behind.
func TestRootOfLeavesThatComeAgain(t *testing.T) {
	for of := 1; of <= 17; of++ {
		for n := of; n <= most; n++ {
			wantRoot(t, slices.Repeat(unlike(of), n/of+1)[:n])
		}
	}
	for n := range most + 1 {
		l, m := unlike(n), unlike(n)
		slices.Reverse(m)
		wantRoot(t, slices.Concat(l, l))
		wantRoot(t, slices.Concat(l, m))
		wantRoot(t, slices.Concat(l, l, m, m))
	}
}

// All leaves of two texts, up to some ten of them.
func TestRootOfTwoTextsInAllWays(t *testing.T) {
	seen := map[api.Hash]int{}
	count := 0
	for n := range 12 {
		for way := range 1 << n {
			leaves := make([][]byte, n)
			for i := range leaves {
				leaves[i] = []byte{'a' + byte(way>>i&1)}
			}
			wantRoot(t, leaves)
			seen[tree.Root(leaves)]++
			count++
		}
	}
	if len(seen) != count {
		t.Fatalf("%d roots of %d", len(seen), count)
	}
}

func TestRootOfEmptyLeaves(t *testing.T) {
	for n := range most + 1 {
		leaves := like(n, nil)
		for i := range leaves {
			if i%3 == 0 {
				leaves[i] = []byte{}
			}
		}
		wantRoot(t, leaves)
		if tree.Root(leaves) != tree.Root(like(n, nil)) {
			t.Fatalf("%d: a leaf that is nil isn't as one of no bytes", n)
		}
		for i := range leaves {
			other := unlike(n)
			other[i] = nil
			wantRoot(t, other)
		}
	}
}

func TestRootOfOtherOrders(t *testing.T) {
	for n := 2; n <= most; n++ {
		leaves := unlike(n)
		was := tree.Root(leaves)
		for i := range n - 1 {
			other := slices.Clone(leaves)
			other[i], other[i+1] = other[i+1], other[i]
			wantRoot(t, other)
			if tree.Root(other) == was {
				t.Fatalf("%d leaves: the order of %d and %d doesn't count", n, i, i+1)
			}
		}
		other := slices.Clone(leaves)
		slices.Reverse(other)
		wantRoot(t, other)
		turned := slices.Concat(leaves[n/2:], leaves[:n/2])
		wantRoot(t, turned)
		if tree.Root(other) == was || tree.Root(turned) == was {
			t.Fatalf("%d leaves: the order doesn't count", n)
		}
	}
}

// What leaves have is told from where they end, and from what is above them.
func TestRootTellsLeavesFromOthers(t *testing.T) {
	seen := map[api.Hash]int{}
	for _, leaves := range [][][]byte{{}, {nil}, {nil, nil}, {[]byte("ab")}, {[]byte("a"), []byte("b")}, {nil, []byte("ab")}, {[]byte("ab"), nil}, {{0}}, {{1}}, {{0}, {0}}, {{0, 0}}} {
		wantRoot(t, leaves)
		seen[tree.Root(leaves)]++
	}
	four := unlike(4)
	a, b, c, d := tree.Leaf(four[0]), tree.Leaf(four[1]), tree.Leaf(four[2]), tree.Leaf(four[3])
	left, right := tree.Node(a, b), tree.Node(c, d)
	for _, leaves := range [][][]byte{four, {slices.Concat(a[:], b[:]), slices.Concat(c[:], d[:])}, {left[:], right[:]}, {slices.Concat(left[:], right[:])}, {a[:], b[:], c[:], d[:]}} {
		wantRoot(t, leaves)
		seen[tree.Root(leaves)]++
	}
	if len(seen) != 16 {
		t.Fatalf("%d roots of 16", len(seen))
	}
}
