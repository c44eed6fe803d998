package grow_test

import (
	"math"
	"slices"
	"testing"

	"estreat/api"
	"estreat/grow"
	"estreat/sha"
	"estreat/tree"
)

// P20.2: Check

// wantChecked looks whether the answer is this one, and the model's.
func wantChecked(t *testing.T, want bool, m, n int, a, b api.Hash, proof []api.Hash) {
	t.Helper()
	if got := grow.Check(m, n, a, b, proof); got != want || got != checkBy(m, n, a, b, proof) {
		t.Fatalf("%d of %d, %d digests: %v, not %v, and by the model %v", m, n, len(proof), got, want, checkBy(m, n, a, b, proof))
	}
}

func wantTrue(t *testing.T, m, n int, a, b api.Hash, proof []api.Hash) {
	t.Helper()
	wantChecked(t, true, m, n, a, b, proof)
}

func wantFalse(t *testing.T, m, n int, a, b api.Hash, proof []api.Hash) {
	t.Helper()
	wantChecked(t, false, m, n, a, b, proof)
}

// proofs calls f with each beginning, but 0 and n, of unlike leaves of each number.
func proofs(t *testing.T, f func(m, n int, a, b api.Hash, proof []api.Hash)) {
	t.Helper()
	for n := 2; n <= 35; n++ {
		leaves := unlike(n)
		b := rootBy(leaves)
		for m := 1; m < n; m++ {
			f(m, n, rootBy(leaves[:m]), b, proofBy(leaves, m, false))
		}
	}
	for _, n := range []int{63, 64, 65, 100} {
		leaves := unlike(n)
		for _, m := range []int{1, 2, 31, 32, 33, 48, n - 2, n - 1} {
			f(m, n, rootBy(leaves[:m]), rootBy(leaves), proofBy(leaves, m, false))
		}
	}
}

// turned is h with one bit another.
func turned(h api.Hash, bit int) api.Hash {
	h[bit/8%32] ^= 1 << (bit % 8)
	return h
}

func TestCheckOfProofsByTheWords(t *testing.T) {
	proofs(t, func(m, n int, a, b api.Hash, proof []api.Hash) {
		wantTrue(t, m, n, a, b, proof)
	})
}

func TestCheckOfKnownProofs(t *testing.T) {
	for _, x := range known(t) {
		wantTrue(t, x.m, len(x.leaves), tree.Root(x.leaves[:x.m]), tree.Root(x.leaves), x.proof)
	}
}

func TestCheckOfTwoOfThree(t *testing.T) {
	a, b, c := digest(1), digest(2), digest(3)
	two := tree.Node(a, b)
	wantTrue(t, 2, 3, two, tree.Node(two, c), []api.Hash{c})
	wantFalse(t, 2, 3, two, tree.Node(c, two), []api.Hash{c})
	wantFalse(t, 2, 3, tree.Node(b, a), tree.Node(two, c), []api.Hash{c})
	wantFalse(t, 2, 3, two, tree.Node(two, c), []api.Hash{b})
}

func TestCheckOfNumbersThatArent(t *testing.T) {
	proofs(t, func(m, n int, a, b api.Hash, proof []api.Hash) {
		for _, other := range outside(n) {
			wantFalse(t, other, n, a, b, proof)
			wantFalse(t, other, n, a, b, nil)
			wantFalse(t, other, n, b, b, nil)
			wantFalse(t, other, n, tree.Root(nil), b, nil)
		}
		for _, other := range []int{-1, -n, -m, 0, m - 1, -1 << 40, math.MinInt, math.MinInt + m, 1<<40 + 1, 1<<40 + n, 1<<41 + n, math.MaxInt} {
			wantFalse(t, m, other, a, b, proof)
			wantFalse(t, m, other, a, a, nil)
		}
	})
	for _, n := range []int{-1, -2, -1 << 40, -1<<40 - 1, math.MinInt, math.MinInt + 1, 1<<40 + 1, 1<<40 + 2, 1 << 41, math.MaxInt - 1, math.MaxInt} {
		for _, m := range []int{0, 1, n, n - 1, n / 2, -n} {
			for _, proof := range [][]api.Hash{nil, {}, digests(1), digests(2), digests(40), digests(63)} {
				wantFalse(t, m, n, tree.Root(nil), tree.Root(nil), proof)
				wantFalse(t, m, n, digest(1), digest(1), proof)
			}
		}
	}
}

func TestCheckOfAShorterProof(t *testing.T) {
	proofs(t, func(m, n int, a, b api.Hash, proof []api.Hash) {
		for k := range proof {
			wantFalse(t, m, n, a, b, proof[:k])
			wantFalse(t, m, n, a, b, proof[k+1:])
			wantFalse(t, m, n, a, b, slices.Concat(proof[:k], proof[k+1:]))
		}
		for _, none := range [][]api.Hash{nil, {}} {
			wantFalse(t, m, n, a, b, none)
			wantFalse(t, m, n, b, b, none)
			wantFalse(t, m, n, a, a, none)
		}
	})
}

func TestCheckOfALongerProof(t *testing.T) {
	proofs(t, func(m, n int, a, b api.Hash, proof []api.Hash) {
		for _, more := range []api.Hash{{}, digest(1), a, b, proof[0], proof[len(proof)-1]} {
			for k := range len(proof) + 1 {
				wantFalse(t, m, n, a, b, slices.Insert(slices.Clone(proof), k, more))
			}
		}
		wantFalse(t, m, n, a, b, slices.Concat(proof, proof))
		wantFalse(t, m, n, a, b, slices.Concat(proof, digests(64)))
		wantFalse(t, m, n, a, b, digests(1000))
	})
}

func TestCheckOfNone(t *testing.T) {
	none := sha.Sum(nil)
	for _, n := range []int{0, 1, 2, 3, 7, 8, 9, 1000, 1<<40 - 1, 1 << 40} {
		for _, b := range []api.Hash{{}, none, digest(1), tree.Root(unlike(min(n, 9)))} {
			for _, proof := range [][]api.Hash{nil, {}} {
				wantTrue(t, 0, n, none, b, proof)
				for bit := range 256 {
					wantFalse(t, 0, n, turned(none, bit), b, proof)
				}
				for _, a := range []api.Hash{{}, digest(1), digest(2), tree.Leaf(nil), tree.Root(unlike(3))} {
					wantFalse(t, 0, n, a, b, proof)
					wantFalse(t, 0, n, a, a, proof)
				}
			}
			for _, proof := range [][]api.Hash{{none}, {b}, {{}}, digests(1), digests(2), digests(40)} {
				wantFalse(t, 0, n, none, b, proof)
			}
		}
	}
}

func TestCheckOfAll(t *testing.T) {
	for _, n := range []int{1, 2, 3, 4, 5, 7, 8, 9, 1000, 1<<40 - 1, 1 << 40} {
		for _, a := range []api.Hash{{}, digest(1), tree.Root(nil), tree.Root(unlike(min(n, 9)))} {
			for _, proof := range [][]api.Hash{nil, {}} {
				wantTrue(t, n, n, a, a, proof)
				for bit := range 256 {
					wantFalse(t, n, n, a, turned(a, bit), proof)
					wantFalse(t, n, n, turned(a, bit), a, proof)
				}
				wantFalse(t, n, n, a, digest(2), proof)
			}
			for _, proof := range [][]api.Hash{{a}, {{}}, {tree.Root(nil)}, digests(1), digests(2), digests(40)} {
				wantFalse(t, n, n, a, a, proof)
			}
		}
	}
}

func TestCheckOfOtherRoots(t *testing.T) {
	proofs(t, func(m, n int, a, b api.Hash, proof []api.Hash) {
		for _, other := range slices.Concat([]api.Hash{{}, digest(1), tree.Root(nil), turned(a, m), turned(b, n)}, proof) {
			if other != a {
				wantFalse(t, m, n, other, b, proof)
			}
			if other != b {
				wantFalse(t, m, n, a, other, proof)
			}
		}
		wantFalse(t, m, n, b, a, proof)
		wantFalse(t, m, n, a, a, proof)
		wantFalse(t, m, n, b, b, proof)
		wantFalse(t, m, n, digest(1), digest(1), proof)
	})
}

func TestEachBitOfRootsAndProofCounts(t *testing.T) {
	leaves := unlike(13)
	b := tree.Root(leaves)
	for _, m := range []int{1, 4, 5, 8, 11, 12} {
		a := tree.Root(leaves[:m])
		proof, _ := grow.Proof(leaves, m)
		for bit := range 256 {
			wantFalse(t, m, 13, turned(a, bit), b, proof)
			wantFalse(t, m, 13, a, turned(b, bit), proof)
			for k := range proof {
				other := slices.Clone(proof)
				other[k] = turned(other[k], bit)
				wantFalse(t, m, 13, a, b, other)
			}
		}
	}
}

func TestCheckOfAChangedProof(t *testing.T) {
	proofs(t, func(m, n int, a, b api.Hash, proof []api.Hash) {
		for k := range proof {
			for _, h := range []api.Hash{{}, digest(k), a, b, turned(proof[k], m+n)} {
				other := slices.Clone(proof)
				other[k] = h
				if h != proof[k] {
					wantFalse(t, m, n, a, b, other)
				}
			}
			for i := range k {
				other := slices.Clone(proof)
				other[i], other[k] = other[k], other[i]
				wantFalse(t, m, n, a, b, other)
				other[i] = other[k]
				wantFalse(t, m, n, a, b, other)
			}
		}
		other := slices.Clone(proof)
		slices.Reverse(other)
		wantChecked(t, len(proof) == 1, m, n, a, b, other)
	})
}

// Of a proof that somebody thought up, both roots must be what is put together of it.
func TestCheckOfOneRootThatIsRight(t *testing.T) {
	proofs(t, func(m, n int, a, b api.Hash, proof []api.Hash) {
		for k := range proof {
			other := slices.Clone(proof)
			other[k] = digest(k)
			first, all, _ := togetherBy(m, n, a, other)
			wantTrue(t, m, n, first, all, other)
			wantFalse(t, m, n, first, b, other)
			if first != a {
				wantFalse(t, m, n, a, all, other)
			}
		}
	})
}

func TestCheckOfAnotherBeginning(t *testing.T) {
	proofs(t, func(m, n int, a, b api.Hash, proof []api.Hash) {
		for other := range n + 1 {
			if other != m {
				wantFalse(t, other, n, a, b, proof)
			}
		}
	})
}

func TestCheckOfAnotherNumberOfLeaves(t *testing.T) {
	proofs(t, func(m, n int, a, b api.Hash, proof []api.Hash) {
		for other := m; other <= 2*n+2; other++ {
			if sizeBy(m, other) != len(proof) {
				wantFalse(t, m, other, a, b, proof)
			} else {
				wantChecked(t, checkBy(m, other, a, b, proof), m, other, a, b, proof)
			}
		}
	})
	// Where all others stand on the same sides, the number doesn't count.
	leaves := unlike(3)
	proof, _ := grow.Proof(leaves, 2)
	wantTrue(t, 2, 4, tree.Root(leaves[:2]), tree.Root(leaves), proof)
	wantFalse(t, 2, 5, tree.Root(leaves[:2]), tree.Root(leaves), proof)
	leaves = unlike(5)
	proof, _ = grow.Proof(leaves, 3)
	wantTrue(t, 3, 8, tree.Root(leaves[:3]), tree.Root(leaves), proof)
	wantFalse(t, 3, 4, tree.Root(leaves[:3]), tree.Root(leaves), proof)
	wantFalse(t, 3, 9, tree.Root(leaves[:3]), tree.Root(leaves), proof)
}

func TestCheckOfGreatNumbers(t *testing.T) {
	taken, refused := 0, 0
	for _, n := range slices.Concat(great(), []int{1<<40 - 1, 1 << 40, 1<<40 + 1, 1<<41 - 1, 1 << 41}) {
		for _, m := range beginningsOf(n) {
			if m == 0 || m == n {
				continue
			}
			proof := digests(sizeBy(m, n))
			a, b, ok := togetherBy(m, n, digest(-1), proof)
			if !ok {
				t.Fatalf("%d of %d: the model puts nothing together", m, n)
			}
			wantChecked(t, n <= 1<<40, m, n, a, b, proof)
			wantFalse(t, m, n, turned(a, m), b, proof)
			wantFalse(t, m, n, a, turned(b, m), proof)
			wantFalse(t, m, n, a, b, append(proof, digest(1)))
			wantFalse(t, m, n, a, b, proof[1:])
			if n <= 1<<40 {
				taken++
			} else {
				refused++
			}
		}
	}
	if taken < 1000 || refused < 1000 {
		t.Fatalf("%d taken, %d refused", taken, refused)
	}
}

func TestCheckAboutTheGreatestNumber(t *testing.T) {
	const n = 1 << 40
	// At the first leaf all others are on the right, and stand in b alone.
	a, b := digest(-1), digest(-1)
	for _, h := range digests(40) {
		b = tree.Node(b, h)
	}
	wantTrue(t, 1, n, a, b, digests(40))
	wantTrue(t, 1, n-1, a, b, digests(40))
	wantFalse(t, 1, n+1, a, b, digests(40))
	wantFalse(t, 1, n+1, a, tree.Node(b, digest(40)), digests(41))
	// But one of all: the last one of these has the others on the left.
	l := digests(41)
	a, b = l[0], tree.Node(l[0], l[1])
	for _, h := range l[2:] {
		a, b = tree.Node(h, a), tree.Node(h, b)
	}
	wantTrue(t, n-1, n, a, b, l)
	wantFalse(t, n-1, n+1, a, b, l)
	wantFalse(t, n, n+1, a, tree.Node(a, digest(1)), digests(1)[:0])
	wantFalse(t, n, n+1, a, tree.Node(a, digest(0)), digests(1))
	wantTrue(t, n/2, n, a, tree.Node(a, digest(0)), digests(1))
	// 0 and n, too.
	wantFalse(t, 0, n+1, tree.Root(nil), b, nil)
	wantFalse(t, n+1, n+1, b, b, nil)
}

// Whatever it is asked, it ends, with the model's answer.
func TestCheckOfAnything(t *testing.T) {
	numbers := []int{math.MinInt, math.MinInt + 1, -1 << 40, -3, -2, -1, 0, 1, 2, 3, 4, 5, 6, 7, 8, 9, 1 << 20, 1<<20 + 1, 1<<40 - 1, 1 << 40, 1<<40 + 1, 1 << 62, math.MaxInt - 1, math.MaxInt}
	hashes := []api.Hash{{}, tree.Root(nil), tree.Root(unlike(3)), tree.Leaf(nil)}
	for _, n := range numbers {
		for _, m := range numbers {
			if size := grow.Size(m, n); size != sizeBy(m, n) {
				t.Fatalf("%d of %d: %d digests", m, n, size)
			}
			for long := range 67 {
				proof := digests(long)
				for i, a := range hashes {
					b := hashes[(i+long)%len(hashes)]
					wantChecked(t, checkBy(m, n, a, b, proof), m, n, a, b, proof)
				}
			}
		}
	}
}
