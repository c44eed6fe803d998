package grow_test

import (
	"slices"
	"testing"

	"estreat/api"
	"estreat/grow"
	"estreat/tree"
)

// P20.3: that leaves begin with others

func TestEachProofIsChecked(t *testing.T) {
	for n := range most + 1 {
		for _, leaves := range lists(n) {
			b := tree.Root(leaves)
			for m := range n + 1 {
				proof, ok := grow.Proof(leaves, m)
				if !ok || !grow.Check(m, n, tree.Root(leaves[:m]), b, proof) {
					t.Fatalf("%d of %d: it isn't checked (%v)", m, n, ok)
				}
			}
		}
	}
	for _, n := range []int{127, 128, 129, 1000, 1023, 1024, 1025} {
		leaves := unlike(n)
		k := tree.Split(n)
		for _, m := range []int{0, 1, k / 2, k - 1, k, k + 1, k + (n-k)/2, n - 1, n} {
			proof, ok := grow.Proof(leaves, m)
			if !ok || !grow.Check(m, n, tree.Root(leaves[:m]), tree.Root(leaves), proof) {
				t.Fatalf("%d of %d: it isn't checked (%v)", m, n, ok)
			}
		}
	}
}

// A ledger that grows again and again: from each to each behind it.
func TestFromEachToEachBehindIt(t *testing.T) {
	leaves := unlike(24)
	for n := range 25 {
		for m := range 25 {
			proof, ok := grow.Proof(leaves[:n], m)
			if ok != (m <= n) || grow.Check(m, n, tree.Root(leaves[:m]), tree.Root(leaves[:n]), proof) != ok {
				t.Fatalf("from %d to %d: %v", m, n, ok)
			}
		}
	}
}

// another is what the i-th one of the leaves may be instead.
func another(leaves [][]byte, i int) [][][]byte {
	var l [][][]byte
	for _, b := range [][]byte{[]byte("another"), append(slices.Clone(leaves[i]), 0), nil, {0}, {1}} {
		if slices.Equal(b, leaves[i]) {
			continue
		}
		other := slices.Clone(leaves)
		other[i] = b
		l = append(l, other)
	}
	return l
}

func TestWhereOneOfTheFirstIsAnother(t *testing.T) {
	for n := 1; n <= 20; n++ {
		leaves := unlike(n)
		for i := range n {
			for _, other := range another(leaves, i) {
				for m := i + 1; m <= n; m++ {
					wantNotBegun(t, leaves, other, m)
				}
			}
		}
	}
}

// wantNotBegun is of leaves and others, as many, that don't begin with the same m.
func wantNotBegun(t *testing.T, leaves, other [][]byte, m int) {
	t.Helper()
	n := len(leaves)
	a, b := tree.Root(leaves[:m]), tree.Root(leaves)
	proof, _ := grow.Proof(leaves, m)
	second, third := tree.Root(other[:m]), tree.Root(other)
	forged, _ := grow.Proof(other, m)
	if !grow.Check(m, n, a, b, proof) || !grow.Check(m, n, second, third, forged) {
		t.Fatalf("%d of %d: a proof isn't checked", m, n)
	}
	for _, l := range [][]api.Hash{proof, forged} {
		if grow.Check(m, n, a, third, l) || grow.Check(m, n, second, b, l) {
			t.Fatalf("%d of %d: of other leaves it tells that they begin so", m, n)
		}
	}
}

// Where another leaf stands behind the first m, they begin as they did.
func TestWhereOneBehindTheFirstIsAnother(t *testing.T) {
	for n := 1; n <= 20; n++ {
		leaves := unlike(n)
		for i := range n {
			other := another(leaves, i)[0]
			for m := range i + 1 {
				proof, _ := grow.Proof(other, m)
				if !grow.Check(m, n, tree.Root(leaves[:m]), tree.Root(other), proof) {
					t.Fatalf("%d of %d, leaf %d another: it isn't checked", m, n, i)
				}
				was, _ := grow.Proof(leaves, m)
				if m > 0 && grow.Check(m, n, tree.Root(leaves[:m]), tree.Root(other), was) {
					t.Fatalf("%d of %d, leaf %d another: the proof of others is checked", m, n, i)
				}
			}
		}
	}
}

func TestWhereTheFirstStandInAnotherOrder(t *testing.T) {
	for n := 2; n <= 20; n++ {
		leaves := unlike(n)
		for i := range n - 1 {
			other := slices.Clone(leaves)
			other[i], other[i+1] = other[i+1], other[i]
			for m := i + 1; m <= n; m++ {
				wantNotBegun(t, leaves, other, m)
			}
		}
		other := slices.Clone(leaves)
		slices.Reverse(other)
		for m := 1; m <= n; m++ {
			if !slices.EqualFunc(leaves[:m], other[:m], slices.Equal) {
				wantNotBegun(t, leaves, other, m)
			}
		}
	}
}

// twoTexts is all lists of n leaves of two texts.
func twoTexts(n int) [][][]byte {
	var l [][][]byte
	for way := range 1 << n {
		leaves := make([][]byte, n)
		for i := range leaves {
			leaves[i] = []byte{'a' + byte(way>>i&1)}
		}
		l = append(l, leaves)
	}
	return l
}

// A proof of any leaves, as many, tells just that they begin so which do.
func TestOfAllLeavesOfTwoTexts(t *testing.T) {
	for n := 1; n <= 5; n++ {
		all := twoTexts(n)
		for m := 1; m <= n; m++ {
			var proofs [][]api.Hash
			for _, leaves := range all {
				proof, _ := grow.Proof(leaves, m)
				proofs = append(proofs, proof)
			}
			for _, first := range twoTexts(m) {
				a := tree.Root(first)
				for i, leaves := range all {
					begins := slices.EqualFunc(leaves[:m], first, slices.Equal)
					wantBegun(t, begins, m, n, a, tree.Root(leaves), proofs[i], proofs)
				}
			}
		}
	}
}

// wantBegun is of the proof of the leaves themselves, and of those of all leaves.
func wantBegun(t *testing.T, begins bool, m, n int, a, b api.Hash, own []api.Hash, proofs [][]api.Hash) {
	t.Helper()
	if grow.Check(m, n, a, b, own) != begins {
		t.Fatalf("%d of %d: %v", m, n, !begins)
	}
	for _, proof := range proofs {
		if grow.Check(m, n, a, b, proof) && !begins {
			t.Fatalf("%d of %d: it is told that they begin so", m, n)
		}
	}
}

// Whatever is laid together of the digests that stand in the tree, it tells of no
// other root that the leaves begin with it.
func TestOfAllProofsOfTheTreesOwnDigests(t *testing.T) {
	for n := 2; n <= 5; n++ {
		leaves := unlike(n)
		stand := standing(leaves)
		checked := 0
		for m := 1; m < n; m++ {
			a, b := tree.Root(leaves[:m]), tree.Root(leaves)
			eachRow(stand, grow.Size(m, n), func(proof []api.Hash) {
				first, _, _ := togetherBy(m, n, a, proof)
				for _, told := range append(stand, a, first) {
					if !grow.Check(m, n, told, b, proof) {
						continue
					}
					if checked++; told != a {
						t.Fatalf("%d of %d: they begin with %x, too", m, n, told)
					}
				}
			})
		}
		if checked == 0 {
			t.Fatalf("%d leaves: none is checked", n)
		}
	}
}

// standing is the roots of all parts, down to the leaves.
func standing(leaves [][]byte) []api.Hash {
	l := []api.Hash{tree.Root(leaves)}
	if len(leaves) > 1 {
		k := tree.Split(len(leaves))
		l = slices.Concat(l, standing(leaves[:k]), standing(leaves[k:]))
	}
	return l
}

// eachRow calls f with all rows of so many of the digests.
func eachRow(of []api.Hash, long int, f func(row []api.Hash)) {
	row := make([]api.Hash, long)
	var fill func(at int)
	fill = func(at int) {
		if at == long {
			f(row)
			return
		}
		for _, h := range of {
			row[at] = h
			fill(at + 1)
		}
	}
	fill(0)
}
