package tree_test

import (
	"bytes"
	"slices"
	"testing"

	"estreat/api"
	"estreat/tree"
)

// R4 and R7: what is handed in stays and isn't kept, what is answered is new memory,
// and the same each time.

// cut is l with room behind it that has something in it, which nobody may read or
// write into.
func cut[T any](l []T, behind ...T) []T {
	return slices.Concat(l, behind)[: len(l) : len(l)+len(behind)]
}

// roomy is leaves with room behind each of them, and behind the list.
func roomy(n int, behind byte) [][]byte {
	l := unlike(n)
	for i, b := range l {
		l[i] = cut(b, behind, behind)
	}
	return cut(l, []byte{behind}, []byte{behind, behind})
}

// wantRoomy looks whether l is still as roomy made it.
func wantRoomy(t *testing.T, l [][]byte, behind byte) {
	t.Helper()
	n := len(l)
	want := roomy(n, behind)
	for i, b := range l[:n+2] {
		if i < n {
			b, want[i] = b[:len(b)+2], want[i][:len(want[i])+2]
		}
		if !bytes.Equal(b, want[:n+2][i]) {
			t.Fatalf("leaf %d of %d is another one: %x, not %x", i, n, b, want[:n+2][i])
		}
	}
}

func TestLeavesThatAreHandedInStay(t *testing.T) {
	for n := range 35 {
		leaves := roomy(n, 0xee)
		root := tree.Root(leaves)
		var told [][]api.Hash
		for i := range n {
			tree.Leaf(leaves[i])
			path, _ := tree.Path(leaves, i)
			told = append(told, path)
		}
		wantRoomy(t, leaves, 0xee)
		for _, b := range leaves {
			clear(b[:cap(b)])
		}
		clear(leaves[:cap(leaves)])
		if root != rootBy(unlike(n)) {
			t.Fatalf("%d leaves: the root hangs on what was handed in", n)
		}
		for i, path := range told {
			if !slices.Equal(path, pathBy(unlike(n), i)) {
				t.Fatalf("leaf %d of %d: the path hangs on what was handed in", i, n)
			}
		}
	}
}

func TestNilLeavesStayNil(t *testing.T) {
	leaves := [][]byte{nil, {}, nil, {1}, nil}
	tree.Root(leaves)
	tree.Path(leaves, 2)
	for i, b := range leaves {
		if (b == nil) != (i%2 == 0) {
			t.Fatalf("leaf %d is another one", i)
		}
	}
}

func TestWhatLiesBehindLeavesIsNotRead(t *testing.T) {
	for n := range 35 {
		a, b := roomy(n, 1), roomy(n, 2)
		if tree.Root(a) != tree.Root(b) || tree.Root(a) != rootBy(unlike(n)) {
			t.Fatalf("%d leaves: what lies behind counts", n)
		}
		for i := range n {
			p, _ := tree.Path(a, i)
			q, _ := tree.Path(b, i)
			if !slices.Equal(p, q) || tree.Leaf(a[i]) != tree.Leaf(b[i]) {
				t.Fatalf("leaf %d of %d: what lies behind counts", i, n)
			}
		}
		for i := n; i < n+3; i++ {
			if path, ok := tree.Path(a, i); ok || len(path) != 0 {
				t.Fatalf("leaf %d of %d: %x, %v", i, n, path, ok)
			}
		}
	}
}

func TestAPathThatIsHandedInStays(t *testing.T) {
	paths(t, func(leaf api.Hash, i, n int, path []api.Hash, root api.Hash) {
		handed := cut(path, digest(1), digest(2))
		if h, ok := tree.Fold(leaf, i, n, handed); !ok || h != root {
			t.Fatalf("leaf %d of %d: %x, %v", i, n, h, ok)
		}
		if !slices.Equal(handed[:cap(handed)], slices.Concat(path, []api.Hash{digest(1), digest(2)})) {
			t.Fatalf("leaf %d of %d: the path is another one", i, n)
		}
		// What lies behind doesn't fill up a path that is too short.
		if len(path) > 0 {
			wantRefused(t, leaf, i, n, path[:len(path)-1])
			wantRefused(t, leaf, i, n, path[:0])
		}
	})
}

func TestPathsThatAreAnsweredAreNewMemory(t *testing.T) {
	for n := 1; n <= 35; n++ {
		leaves := unlike(n)
		var told, again [][]api.Hash
		for i := range n {
			path, _ := tree.Path(leaves, i)
			told = append(told, path)
			path, _ = tree.Path(leaves, i)
			again = append(again, path)
		}
		for _, path := range told {
			_ = append(path, digest(1), digest(2))
			full := path[:cap(path)]
			for k := range full {
				full[k] = digest(k)
			}
		}
		for i, path := range again {
			if !slices.Equal(path, pathBy(unlike(n), i)) {
				t.Fatalf("leaf %d of %d: another's path was written over", i, n)
			}
		}
		if tree.Root(leaves) != rootBy(unlike(n)) {
			t.Fatalf("%d leaves: they were written over", n)
		}
		for i := range n {
			wantPath(t, leaves, i)
		}
	}
}

// Digests are values: whoever writes one over writes over his own.
func TestDigestsThatAreAnsweredAreValues(t *testing.T) {
	leaves := unlike(5)
	path, _ := tree.Path(leaves, 4)
	root := tree.Root(leaves)
	folded, _ := tree.Fold(tree.Leaf(leaves[4]), 4, 5, path)
	node, leaf := tree.Node(root, root), tree.Leaf(nil)
	for _, h := range []*api.Hash{&root, &folded, &node, &leaf} {
		clear(h[:])
	}
	wantRoot(t, leaves)
	wantPath(t, leaves, 4)
	wantNode(t, digest(1), digest(1))
	wantLeaf(t, nil)
}

func TestSameAnswerEachTime(t *testing.T) {
	for n := 1; n <= 35; n++ {
		leaves := unlike(n)
		root := tree.Root(leaves)
		path, _ := tree.Path(leaves, n/2)
		for range 3 {
			tree.Root(like(n, []byte("other")))
			again, ok := tree.Path(leaves, n/2)
			if tree.Root(leaves) != root || !ok || !slices.Equal(again, path) {
				t.Fatalf("%d leaves: another answer", n)
			}
			if h, ok := tree.Fold(tree.Leaf(leaves[n/2]), n/2, n, path); !ok || h != root {
				t.Fatalf("%d leaves: %x, %v", n, h, ok)
			}
		}
	}
}
