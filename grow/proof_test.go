package grow_test

import (
	"math"
	"slices"
	"testing"

	"estreat/api"
	"estreat/grow"
	"estreat/tree"
)

// P20.1: Proof

func wantProof(t *testing.T, leaves [][]byte, m int) {
	t.Helper()
	proof, ok := grow.Proof(leaves, m)
	if want := proofBy(leaves, m, false); !ok || !slices.Equal(proof, want) {
		t.Fatalf("%d of %d: %x, %v, not %x", m, len(leaves), proof, ok, want)
	}
	if size := grow.Size(m, len(leaves)); size != len(proof) {
		t.Fatalf("%d of %d: %d digests, not %d", m, len(leaves), len(proof), size)
	}
}

func wantNoDigests(t *testing.T, leaves [][]byte, m int) {
	t.Helper()
	if proof, ok := grow.Proof(leaves, m); !ok || len(proof) != 0 {
		t.Fatalf("%d of %d: %x, %v", m, len(leaves), proof, ok)
	}
}

// wantNoProof is of numbers that aren't from 0 to how many leaves there are.
func wantNoProof(t *testing.T, leaves [][]byte) {
	t.Helper()
	for _, m := range outside(len(leaves)) {
		if proof, ok := grow.Proof(leaves, m); ok || len(proof) != 0 {
			t.Fatalf("%d of %d: %x, %v", m, len(leaves), proof, ok)
		}
	}
}

func TestProofOfKnownLeaves(t *testing.T) {
	for _, x := range known(t) {
		if proof, ok := grow.Proof(x.leaves, x.m); !ok || !slices.Equal(proof, x.proof) {
			t.Errorf("%d of %d: %x, %v, not %x", x.m, len(x.leaves), proof, ok, x.proof)
		}
	}
}

func TestProofOfNoLeaves(t *testing.T) {
	for _, leaves := range [][][]byte{nil, {}, unlike(5)[:0]} {
		wantNoDigests(t, leaves, 0)
		wantNoProof(t, leaves)
	}
}

func TestProofOfOne(t *testing.T) {
	for _, b := range [][]byte{nil, {}, {0}, []byte("a")} {
		wantNoDigests(t, [][]byte{b}, 0)
		wantNoDigests(t, [][]byte{b}, 1)
		wantNoProof(t, [][]byte{b})
	}
}

func TestProofOfTwoToFour(t *testing.T) {
	leaves := unlike(4)
	a, b, c, d := tree.Leaf(leaves[0]), tree.Leaf(leaves[1]), tree.Leaf(leaves[2]), tree.Leaf(leaves[3])
	for _, x := range []struct {
		n, m int
		want []api.Hash
	}{
		{2, 1, []api.Hash{b}},
		{3, 1, []api.Hash{b, c}},
		{3, 2, []api.Hash{c}},
		{4, 1, []api.Hash{b, tree.Node(c, d)}},
		{4, 2, []api.Hash{tree.Node(c, d)}},
		{4, 3, []api.Hash{c, d, tree.Node(a, b)}},
	} {
		if proof, ok := grow.Proof(leaves[:x.n], x.m); !ok || !slices.Equal(proof, x.want) {
			t.Errorf("%d of %d: %x, %v, not %x", x.m, x.n, proof, ok, x.want)
		}
	}
}

// As a part, of all of them, it is their root: here of the fifth to the seventh leaf.
func TestProofOfWhatIsAPart(t *testing.T) {
	leaves := unlike(11)
	root := func(from, to int) api.Hash { return tree.Root(leaves[from:to]) }
	for _, x := range []struct {
		n, m int
		want []api.Hash
	}{
		{7, 5, []api.Hash{root(4, 5), root(5, 6), root(6, 7), root(0, 4)}},
		{7, 6, []api.Hash{root(4, 6), root(6, 7), root(0, 4)}},
		{11, 7, []api.Hash{root(6, 7), root(7, 8), root(4, 6), root(0, 4), root(8, 11)}},
		{11, 8, []api.Hash{root(8, 11)}},
		{11, 9, []api.Hash{root(8, 9), root(9, 10), root(10, 11), root(0, 8)}},
		{11, 10, []api.Hash{root(8, 10), root(10, 11), root(0, 8)}},
	} {
		if proof, ok := grow.Proof(leaves[:x.n], x.m); !ok || !slices.Equal(proof, x.want) {
			t.Errorf("%d of %d: %x, %v, not %x", x.m, x.n, proof, ok, x.want)
		}
	}
}

func TestProofOfNoneAndOfAll(t *testing.T) {
	for n := range most + 1 {
		for _, leaves := range lists(n) {
			wantNoDigests(t, leaves, 0)
			wantNoDigests(t, leaves, n)
			wantNoProof(t, leaves)
		}
	}
}

func TestProofOfEachBeginning(t *testing.T) {
	for n := range most + 1 {
		for m := range n + 1 {
			wantProof(t, unlike(n), m)
		}
	}
	for _, n := range []int{127, 128, 129, 255, 256, 257, 511, 512, 513, 1000} {
		leaves := unlike(n)
		k := tree.Split(n)
		for _, m := range []int{0, 1, 2, k / 2, k - 1, k, k + 1, k + (n-k)/2, n / 3, n - 1, n} {
			wantProof(t, leaves, m)
		}
		wantNoProof(t, leaves)
	}
}

func TestProofOfLeavesThatAreTheSame(t *testing.T) {
	for n := range most + 1 {
		for _, leaves := range lists(n)[1:] {
			for m := range n + 1 {
				wantProof(t, leaves, m)
			}
		}
	}
	n := 1<<14 + 1
	for _, m := range []int{0, 1, 1 << 13, 1<<13 + 1, n - 2, n - 1, n} {
		wantProof(t, like(n, []byte("a")), m)
	}
}

// Each leaf stands in one digest of the proof, and in one alone; but where m is a
// power of two, the first m stand in none.
func TestEachLeafStandsInOneDigest(t *testing.T) {
	for n := 2; n <= 20; n++ {
		for m := 1; m < n; m++ {
			was, _ := grow.Proof(unlike(n), m)
			for i := range n {
				leaves := unlike(n)
				leaves[i] = []byte("another")
				proof, _ := grow.Proof(leaves, m)
				changed := 0
				for at := range was {
					if proof[at] != was[at] {
						changed++
					}
				}
				want := 1
				if m&(m-1) == 0 && i < m {
					want = 0
				}
				if changed != want {
					t.Fatalf("%d of %d, leaf %d: %d other digests, not %d", m, n, i, changed, want)
				}
			}
		}
	}
}

// P20.1: Size

func TestSizeOfEachBeginning(t *testing.T) {
	for n := range 600 {
		for m := range n + 1 {
			if size := grow.Size(m, n); size != sizeBy(m, n) {
				t.Fatalf("%d of %d: %d, not %d", m, n, size, sizeBy(m, n))
			}
		}
	}
}

func TestSizeOfSmallNumbers(t *testing.T) {
	for n, sizes := range [][]int{
		{0}, {0, 0}, {0, 1, 0}, {0, 2, 1, 0}, {0, 2, 1, 3, 0}, {0, 3, 2, 4, 1, 0}, {0, 3, 2, 4, 1, 3, 0}, {0, 3, 2, 4, 1, 4, 3, 0}, {0, 3, 2, 4, 1, 4, 3, 4, 0}, {0, 4, 3, 5, 2, 5, 4, 5, 1, 0},
	} {
		for m, want := range sizes {
			if size := grow.Size(m, n); size != want {
				t.Errorf("%d of %d: %d, not %d", m, n, size, want)
			}
		}
	}
}

func TestSizeWhereThereIsNone(t *testing.T) {
	for n := range most + 1 {
		for _, m := range outside(n) {
			if size := grow.Size(m, n); size != -1 {
				t.Fatalf("%d of %d: %d", m, n, size)
			}
		}
	}
	for _, n := range []int{-1, -2, -3, -64, -1 << 32, -1 << 40, math.MinInt + 1, math.MinInt} {
		for _, m := range slices.Concat(outside(0), []int{0, 1, n - 1, n, n + 1, n / 2, -n}) {
			if size := grow.Size(m, n); size != -1 {
				t.Fatalf("%d of %d: %d", m, n, size)
			}
		}
	}
	for _, n := range great() {
		for _, m := range []int{-1, -n, math.MinInt, n + 1, math.MaxInt} {
			if size := grow.Size(m, n); size != -1 {
				t.Fatalf("%d of %d: %d", m, n, size)
			}
		}
	}
}

func TestSizeOfGreatNumbers(t *testing.T) {
	for _, n := range append(great(), math.MaxInt) {
		for _, m := range beginningsOf(n) {
			if size := grow.Size(m, n); size != sizeBy(m, n) {
				t.Fatalf("%d of %d: %d, not %d", m, n, size, sizeBy(m, n))
			}
		}
	}
	const k = 1 << 62
	for _, x := range []struct{ m, n, want int }{
		{0, math.MaxInt, 0}, {1, math.MaxInt, 63}, {2, math.MaxInt, 62}, {3, math.MaxInt, 64}, {k - 1, math.MaxInt, 64}, {k, math.MaxInt, 1}, {k + 1, math.MaxInt, 64},
		{math.MaxInt - 1, math.MaxInt, 63}, {math.MaxInt, math.MaxInt, 0}, {k, k, 0}, {k, k + 1, 1}, {k - 1, k, 63}, {1, k, 62}, {1, k + 1, 63}, {k / 2, k + 1, 2},
	} {
		if size := grow.Size(x.m, x.n); size != x.want {
			t.Errorf("%d of %d: %d, not %d", x.m, x.n, size, x.want)
		}
	}
}
