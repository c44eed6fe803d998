package tree_test

import (
	"math"
	"math/bits"
	"slices"
	"testing"

	"estreat/api"
	"estreat/tree"
)

// P19.1: Path

func wantPath(t *testing.T, leaves [][]byte, i int) {
	t.Helper()
	path, ok := tree.Path(leaves, i)
	if want := pathBy(leaves, i); !ok || !slices.Equal(path, want) {
		t.Fatalf("leaf %d of %d: %x, %v, not %x", i, len(leaves), path, ok, want)
	}
}

// wantNoPath is of places that aren't in the leaves.
func wantNoPath(t *testing.T, leaves [][]byte) {
	t.Helper()
	for _, i := range outside(len(leaves)) {
		if path, ok := tree.Path(leaves, i); ok || len(path) != 0 {
			t.Fatalf("leaf %d of %d: %x, %v", i, len(leaves), path, ok)
		}
	}
}

// outside is numbers that are no places of n.
func outside(n int) []int {
	return []int{-1, -2, -3, -64, -n, -n - 1, -1 << 32, -1 << 40, math.MinInt, math.MinInt + 1, math.MinInt + n, n, n + 1, n + 2, n + n, n + 64, n + 1<<16, n + 1<<32, n + 1<<40, math.MaxInt - n, math.MaxInt - 1, math.MaxInt}
}

// lists is leaves of so many, unlike ones and such as are the same in some way.
func lists(n int) [][][]byte {
	turned := unlike(n)
	slices.Reverse(turned)
	return [][][]byte{unlike(n), turned, like(n, nil), like(n, some(20)), slices.Repeat(unlike(3), n/3+1)[:n], slices.Repeat(unlike(4), n/4+1)[:n]}
}

func TestPathOfNone(t *testing.T) {
	for _, leaves := range [][][]byte{nil, {}, unlike(5)[:0]} {
		wantNoPath(t, leaves)
		if path, ok := tree.Path(leaves, 0); ok || len(path) != 0 {
			t.Fatalf("%x, %v", path, ok)
		}
	}
}

func TestPathOfOne(t *testing.T) {
	for _, b := range [][]byte{nil, {}, {0}, some(100)} {
		if path, ok := tree.Path([][]byte{b}, 0); !ok || len(path) != 0 {
			t.Fatalf("%x, %v", path, ok)
		}
		wantNoPath(t, [][]byte{b})
	}
}

func TestPathOfTwoAndThree(t *testing.T) {
	leaves := unlike(3)
	a, b, c := tree.Leaf(leaves[0]), tree.Leaf(leaves[1]), tree.Leaf(leaves[2])
	for _, x := range []struct {
		n, i int
		want []api.Hash
	}{
		{2, 0, []api.Hash{b}},
		{2, 1, []api.Hash{a}},
		{3, 0, []api.Hash{b, c}},
		{3, 1, []api.Hash{a, c}},
		{3, 2, []api.Hash{tree.Node(a, b)}},
	} {
		if path, ok := tree.Path(leaves[:x.n], x.i); !ok || !slices.Equal(path, x.want) {
			t.Errorf("leaf %d of %d: %x, %v, not %x", x.i, x.n, path, ok, x.want)
		}
	}
}

func TestPathOfEachLeaf(t *testing.T) {
	for n := range most + 1 {
		for _, leaves := range lists(n) {
			for i := range n {
				wantPath(t, leaves, i)
			}
			wantNoPath(t, leaves)
		}
	}
	for _, n := range []int{127, 128, 129, 255, 256, 257, 1000} {
		leaves := unlike(n)
		for i := 0; i < n; i += 1 + n/20 {
			wantPath(t, leaves, i)
		}
		wantPath(t, leaves, n-1)
		wantNoPath(t, leaves)
	}
}

// P19.1: Depth

func TestDepthOfEachPlace(t *testing.T) {
	for n := range most + 1 {
		leaves := unlike(n)
		for i := range n {
			path, _ := tree.Path(leaves, i)
			if d := tree.Depth(i, n); d != len(path) || d != len(pathBy(leaves, i)) {
				t.Fatalf("leaf %d of %d: %d, not %d", i, n, d, len(path))
			}
		}
	}
	for n := range 1100 {
		for i := range n {
			if d := tree.Depth(i, n); d != depthBy(i, n) {
				t.Fatalf("leaf %d of %d: %d, not %d", i, n, d, depthBy(i, n))
			}
		}
	}
}

func TestDepthOfNoPlace(t *testing.T) {
	for n := range most + 1 {
		for _, i := range outside(n) {
			if d := tree.Depth(i, n); d != -1 {
				t.Fatalf("leaf %d of %d: %d", i, n, d)
			}
		}
	}
	for _, n := range []int{0, -1, -2, -3, -70, -1 << 32, -1 << 40, math.MinInt + 1, math.MinInt} {
		for _, i := range slices.Concat([]int{0, 1, 2, 63, n, n - 1, n + 1, -n}, outside(0)) {
			if d := tree.Depth(i, n); d != -1 {
				t.Fatalf("leaf %d of %d: %d", i, n, d)
			}
		}
	}
	for _, n := range great() {
		for _, i := range []int{-1, -n, math.MinInt, n, math.MaxInt} {
			if d := tree.Depth(i, n); d != -1 {
				t.Fatalf("leaf %d of %d: %d", i, n, d)
			}
		}
	}
}

// great is numbers of leaves that nobody has.
func great() []int {
	l := []int{1e6, 1e9 + 7, 1e12, 1e15, math.MaxInt - 1, math.MaxInt, 0x5555555555555555, 0x2aaaaaaaaaaaaaaa, 1<<62 + 1<<31, 1<<40 + 1<<20, 1<<40 - 1<<20}
	for e := 10; e < 63; e++ {
		l = append(l, 1<<e-1, 1<<e, 1<<e+1)
	}
	for i := range 40 {
		l = append(l, 2+int(chance(i)>>(1+i)))
	}
	return l
}

// placesOf is some of the places of n, those about its splits among them.
func placesOf(n int) []int {
	l := []int{0, n - 1, n / 2, n / 3}
	at := 0
	for left := n; left > 1; {
		k := splitBy(left)
		l = append(l, at+k-1, at+k, at+k/2)
		at, left = at+k, left-k
	}
	for e := 0; 1<<e < n && e < 62; e++ {
		l = append(l, 1<<e, 1<<e-1, n-1<<e)
	}
	for i := range 10 {
		l = append(l, int(chance(i)%uint64(n)))
	}
	return l
}

func TestDepthOfGreatNumbers(t *testing.T) {
	for _, n := range great() {
		for _, i := range placesOf(n) {
			if d := tree.Depth(i, n); d != depthBy(i, n) {
				t.Fatalf("leaf %d of %d: %d, not %d", i, n, d, depthBy(i, n))
			}
		}
	}
	for e := range 62 {
		n := 1 << e
		for _, x := range []struct{ i, n, want int }{{0, n, e}, {n - 1, n, e}, {0, n + 1, e + 1}, {n - 1, n + 1, e + 1}, {n, n + 1, 1}} {
			if d := tree.Depth(x.i, x.n); d != x.want {
				t.Errorf("leaf %d of %d: %d, not %d", x.i, x.n, d, x.want)
			}
		}
	}
	for _, x := range []struct{ i, want int }{{0, 63}, {1 << 62, 63}, {math.MaxInt - 1, 62}, {math.MaxInt, -1}} {
		if d := tree.Depth(x.i, math.MaxInt); d != x.want {
			t.Errorf("leaf %d: %d, not %d", x.i, d, x.want)
		}
	}
}

// P19.3: how long a path may be

func TestAPathHasNoMoreDigestsThanBits(t *testing.T) {
	for n := 1; n <= most; n++ {
		for i := range n {
			if path, _ := tree.Path(unlike(n), i); len(path) > bits.Len(uint(n)) {
				t.Fatalf("leaf %d of %d: %d digests", i, n, len(path))
			}
		}
	}
	for _, n := range great() {
		for _, i := range placesOf(n) {
			if d := tree.Depth(i, n); d < 0 || d > bits.Len(uint(n)) {
				t.Fatalf("leaf %d of %d: %d digests", i, n, d)
			}
		}
	}
}
