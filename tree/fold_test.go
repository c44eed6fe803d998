package tree_test

import (
	"math"
	"slices"
	"testing"

	"estreat/api"
	"estreat/tree"
)

// P19.2: Fold

// wantFold looks for what the model tells, and hands it on.
func wantFold(t *testing.T, leaf api.Hash, i, n int, path []api.Hash) (api.Hash, bool) {
	t.Helper()
	got, ok := tree.Fold(leaf, i, n, path)
	want, is := foldBy(leaf, i, n, path)
	if got != want || ok != is {
		t.Fatalf("leaf %d of %d, %d digests: %x, %v, not %x, %v", i, n, len(path), got, ok, want, is)
	}
	return got, ok
}

func wantRefused(t *testing.T, leaf api.Hash, i, n int, path []api.Hash) {
	t.Helper()
	if h, ok := wantFold(t, leaf, i, n, path); ok || h != (api.Hash{}) {
		t.Fatalf("leaf %d of %d, %d digests: %x, %v", i, n, len(path), h, ok)
	}
}

// wantAnother looks for a root that isn't this one.
func wantAnother(t *testing.T, root, leaf api.Hash, i, n int, path []api.Hash) {
	t.Helper()
	if h, ok := wantFold(t, leaf, i, n, path); !ok || h == root {
		t.Fatalf("leaf %d of %d, %d digests: %x, %v", i, n, len(path), h, ok)
	}
}

// paths calls f with each leaf of each number of leaves that are unlike, with its
// path and the root.
func paths(t *testing.T, f func(leaf api.Hash, i, n int, path []api.Hash, root api.Hash)) {
	t.Helper()
	for n := 1; n <= most; n++ {
		leaves := unlike(n)
		root := rootBy(leaves)
		for i := range n {
			f(tagged(0, leaves[i]), i, n, pathBy(leaves, i), root)
		}
	}
}

// digestsOf is so many that look like any.
func digestsOf(n int) []api.Hash {
	l := make([]api.Hash, max(n, 0))
	for i := range l {
		l[i] = digest(i)
	}
	return l
}

func TestFoldOfEachLeaf(t *testing.T) {
	paths(t, func(leaf api.Hash, i, n int, path []api.Hash, root api.Hash) {
		if h, ok := tree.Fold(leaf, i, n, path); !ok || h != root {
			t.Fatalf("leaf %d of %d: %x, %v, not %x", i, n, h, ok, root)
		}
	})
}

func TestFoldOfThree(t *testing.T) {
	a, b, c := digest(1), digest(2), digest(3)
	want := tree.Node(tree.Node(a, b), c)
	for _, x := range []struct {
		leaf api.Hash
		i    int
		path []api.Hash
	}{{a, 0, []api.Hash{b, c}}, {b, 1, []api.Hash{a, c}}, {c, 2, []api.Hash{tree.Node(a, b)}}} {
		if h, ok := tree.Fold(x.leaf, x.i, 3, x.path); !ok || h != want {
			t.Errorf("leaf %d: %x, %v", x.i, h, ok)
		}
	}
}

func TestFoldOfAnotherDigest(t *testing.T) {
	paths(t, func(leaf api.Hash, i, n int, path []api.Hash, root api.Hash) {
		wantAnother(t, root, digest(i), i, n, path)
		wantAnother(t, root, api.Hash{}, i, n, path)
		for at := range leaf {
			other := leaf
			other[at] ^= 1 << (at % 8)
			wantAnother(t, root, other, i, n, path)
		}
	})
}

func TestFoldOfAnotherPlace(t *testing.T) {
	paths(t, func(leaf api.Hash, i, n int, path []api.Hash, root api.Hash) {
		for other := range n {
			switch {
			case other == i:
			case depthBy(other, n) == len(path):
				wantAnother(t, root, leaf, other, n, path)
			default:
				wantRefused(t, leaf, other, n, path)
			}
		}
		for _, other := range outside(n) {
			wantRefused(t, leaf, other, n, path)
			wantRefused(t, leaf, other, n, nil)
		}
	})
}

func TestFoldOfAnotherNumber(t *testing.T) {
	paths(t, func(leaf api.Hash, i, n int, path []api.Hash, root api.Hash) {
		for other := -2; other <= 2*n+2; other++ {
			wantFold(t, leaf, i, other, path)
			if other <= i {
				wantRefused(t, leaf, i, other, path)
			}
		}
		for _, other := range []int{1 << 16, 1 << 32, 1 << 40} {
			wantRefused(t, leaf, i, other+n, path)
			wantRefused(t, leaf, i, -other, path)
		}
	})
	// Where all others stand on the same sides, the number doesn't count.
	leaves := unlike(3)
	path, _ := tree.Path(leaves, 0)
	if h, ok := wantFold(t, tree.Leaf(leaves[0]), 0, 4, path); !ok || h != tree.Root(leaves) {
		t.Fatalf("%x, %v", h, ok)
	}
}

func TestFoldOfAShorterPath(t *testing.T) {
	paths(t, func(leaf api.Hash, i, n int, path []api.Hash, root api.Hash) {
		for k := range len(path) {
			wantRefused(t, leaf, i, n, path[:k])
			wantRefused(t, leaf, i, n, path[k+1:])
			wantRefused(t, leaf, i, n, slices.Concat(path[:k], path[k+1:]))
		}
		if n > 1 {
			wantRefused(t, leaf, i, n, nil)
			wantRefused(t, leaf, i, n, []api.Hash{})
			wantRefused(t, root, i, n, nil)
		}
	})
}

func TestFoldOfALongerPath(t *testing.T) {
	paths(t, func(leaf api.Hash, i, n int, path []api.Hash, root api.Hash) {
		for _, more := range []api.Hash{{}, digest(1), leaf, root} {
			wantRefused(t, leaf, i, n, slices.Concat(path, []api.Hash{more}))
			wantRefused(t, leaf, i, n, slices.Concat([]api.Hash{more}, path))
		}
		wantRefused(t, leaf, i, n, slices.Concat(path, path, []api.Hash{leaf}))
		wantRefused(t, leaf, i, n, slices.Concat(path, digestsOf(64)))
		wantRefused(t, leaf, i, n, digestsOf(1000))
	})
}

func TestFoldOfAChangedPath(t *testing.T) {
	paths(t, func(leaf api.Hash, i, n int, path []api.Hash, root api.Hash) {
		for k := range path {
			other := slices.Clone(path)
			other[k] = digest(k)
			wantAnother(t, root, leaf, i, n, other)
			other[k] = path[k]
			other[k][(i+k)%32] ^= 1 << (n % 8)
			wantAnother(t, root, leaf, i, n, other)
			for m := range k {
				other := slices.Clone(path)
				other[k], other[m] = other[m], other[k]
				wantAnother(t, root, leaf, i, n, other)
			}
			// The leaf and a digest of the path the other way round.
			other = slices.Clone(path)
			other[k] = leaf
			wantAnother(t, root, path[k], i, n, other)
		}
	})
}

func TestEachByteOfAPathCounts(t *testing.T) {
	leaves := unlike(11)
	for i := range leaves {
		path, _ := tree.Path(leaves, i)
		for k := range path {
			for at := range path[k] {
				other := slices.Clone(path)
				other[k][at] ^= 0x80
				wantAnother(t, tree.Root(leaves), tree.Leaf(leaves[i]), i, len(leaves), other)
			}
		}
	}
}

func TestFoldOfOne(t *testing.T) {
	for _, leaf := range []api.Hash{{}, digest(1), tree.Leaf(nil)} {
		for _, path := range [][]api.Hash{nil, {}} {
			if h, ok := wantFold(t, leaf, 0, 1, path); !ok || h != leaf {
				t.Fatalf("%x, %v", h, ok)
			}
		}
		wantRefused(t, leaf, 0, 1, []api.Hash{{}})
		wantRefused(t, leaf, 0, 1, []api.Hash{leaf})
		for _, i := range outside(1) {
			wantRefused(t, leaf, i, 1, nil)
		}
	}
}

func TestFoldOfNoLeaves(t *testing.T) {
	for _, n := range []int{0, -1, -2, -3, -64, -1 << 32, -1 << 40, -1<<40 - 1, math.MinInt + 1, math.MinInt} {
		for _, i := range slices.Concat([]int{0, 1, n, n - 1, n + 1, -n}, outside(0)) {
			for _, path := range [][]api.Hash{nil, {}, digestsOf(1), digestsOf(2), digestsOf(40)} {
				wantRefused(t, digest(1), i, n, path)
			}
		}
	}
}

func TestFoldOfGreatNumbers(t *testing.T) {
	taken, refused := 0, 0
	for _, n := range slices.Concat(great(), []int{1<<40 - 1, 1 << 40, 1<<40 + 1, 1<<41 - 1, 1 << 41}) {
		for _, i := range placesOf(n) {
			long := depthBy(i, n)
			_, ok := wantFold(t, digest(-1), i, n, digestsOf(long))
			if ok != (n <= 1<<40) {
				t.Fatalf("leaf %d of %d, %d digests: %v", i, n, long, ok)
			}
			if ok {
				taken++
			} else {
				refused++
			}
			for _, other := range []int{0, long - 1, long + 1, 2 * long, 64} {
				if other != long {
					wantRefused(t, digest(-1), i, n, digestsOf(other))
				}
			}
		}
		for _, i := range []int{-1, -n, math.MinInt, n, math.MaxInt} {
			wantRefused(t, digest(-1), i, n, digestsOf(depthBy(0, n)))
			wantRefused(t, digest(-1), i, n, nil)
		}
	}
	if taken < 1000 || refused < 1000 {
		t.Fatalf("%d taken, %d refused", taken, refused)
	}
}

func TestFoldAboutTheGreatestNumber(t *testing.T) {
	const n = 1 << 40
	for _, x := range []struct {
		i, n, long int
		want       bool
	}{
		{0, n, 40, true}, {n - 1, n, 40, true}, {n / 2, n, 40, true},
		{0, n, 39, false}, {0, n, 41, false}, {n, n, 40, false}, {-1, n, 40, false},
		{0, n - 1, 40, true}, {n - 2, n - 1, 39, true},
		{0, n + 1, 41, false}, {n, n + 1, 1, false}, {n - 1, n + 1, 41, false}, {0, n + 1, 40, false},
		{0, n + n, 41, false}, {0, math.MaxInt, 63, false}, {math.MaxInt - 1, math.MaxInt, 62, false},
	} {
		if h, ok := wantFold(t, digest(-1), x.i, x.n, digestsOf(x.long)); ok != x.want || (h != api.Hash{}) != x.want {
			t.Errorf("leaf %d of %d, %d digests: %x, %v", x.i, x.n, x.long, h, ok)
		}
	}
	// At the first place all others are on the right.
	want := digest(-1)
	for _, h := range digestsOf(40) {
		want = tree.Node(want, h)
	}
	if h, ok := tree.Fold(digest(-1), 0, n, digestsOf(40)); !ok || h != want {
		t.Fatalf("%x, %v, not %x", h, ok, want)
	}
	// At the last one, on the left.
	want = digest(-1)
	for _, h := range digestsOf(40) {
		want = tree.Node(h, want)
	}
	if h, ok := tree.Fold(digest(-1), n-1, n, digestsOf(40)); !ok || h != want {
		t.Fatalf("%x, %v, not %x", h, ok, want)
	}
}

// P19.3: what Path tells folds to Root

func TestWhatPathTellsFoldsToRoot(t *testing.T) {
	for n := range most + 1 {
		for _, leaves := range lists(n) {
			wantFolded(t, leaves, 1)
		}
	}
	for _, n := range []int{127, 128, 129, 1000, 1025} {
		wantFolded(t, unlike(n), 1+n/30)
		wantFolded(t, like(n, []byte("a")), 1+n/30)
	}
}

// wantFolded is of each so manieth leaf, and of the last one.
func wantFolded(t *testing.T, leaves [][]byte, step int) {
	t.Helper()
	root, n := tree.Root(leaves), len(leaves)
	for i := range n {
		if i%step != 0 && i != n-1 {
			continue
		}
		path, ok := tree.Path(leaves, i)
		if h, folds := tree.Fold(tree.Leaf(leaves[i]), i, n, path); !ok || !folds || h != root {
			t.Fatalf("leaf %d of %d: %v, %v, %x, not %x", i, n, ok, folds, h, root)
		}
	}
}
