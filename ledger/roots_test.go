package ledger_test

import (
	"slices"
	"testing"

	"estreat/api"
	"estreat/grow"
	"estreat/ledger"
	"estreat/sha"
	"estreat/tree"
)

// P21.1: roots, paths and proofs

func wantRoot(t *testing.T, l *ledger.Ledger, entries []api.Entry, n int) {
	t.Helper()
	root, ok := l.Root(n)
	if !ok || root != rootBy(entries[:n]) {
		t.Fatalf("root of %d of %d: %x, %v, not %x", n, len(entries), root, ok, rootBy(entries[:n]))
	}
}

// wantPath looks, besides, whether the path folds with the form to the root.
func wantPath(t *testing.T, l *ledger.Ledger, entries []api.Entry, i int) {
	t.Helper()
	path, ok := l.Path(i)
	if !ok || !slices.Equal(path, pathBy(entries, i)) {
		t.Fatalf("path of %d of %d: %x, %v, not %x", i, len(entries), path, ok, pathBy(entries, i))
	}
	root, _ := l.Root(l.Size())
	if h, ok := tree.Fold(tree.Leaf(ledger.Put(entries[i])), i, len(entries), path); !ok || h != root {
		t.Fatalf("entry %d of %d folds to %x, %v, not %x", i, len(entries), h, ok, root)
	}
}

// wantProof looks, besides, whether the proof is checked with both roots.
func wantProof(t *testing.T, l *ledger.Ledger, entries []api.Entry, m int) {
	t.Helper()
	proof, ok := l.Proof(m)
	if !ok || !slices.Equal(proof, proofBy(entries, m, false)) {
		t.Fatalf("proof of %d of %d: %x, %v, not %x", m, len(entries), proof, ok, proofBy(entries, m, false))
	}
	a, _ := l.Root(m)
	b, _ := l.Root(l.Size())
	if !grow.Check(m, len(entries), a, b, proof) {
		t.Fatalf("proof of %d of %d isn't checked", m, len(entries))
	}
}

func TestRootOfEachNumber(t *testing.T) {
	for n := range most + 1 {
		for _, entries := range lists(n) {
			l := of(t, entries)
			for m := range n + 1 {
				wantRoot(t, l, entries, m)
			}
		}
	}
}

func TestRootsByLayer19(t *testing.T) {
	for n := range most + 1 {
		l := of(t, unlike(n))
		for m := range n + 1 {
			if root, ok := l.Root(m); !ok || root != tree.Root(l.Forms()[:m]) {
				t.Fatalf("root of %d of %d: %x, %v", m, n, root, ok)
			}
		}
	}
	if root, ok := ledger.New().Root(0); !ok || root != sha.Sum(nil) {
		t.Fatalf("root of none: %x, %v", root, ok)
	}
}

func TestPathOfEachEntry(t *testing.T) {
	for n := range most + 1 {
		for _, entries := range lists(n) {
			l := of(t, entries)
			for i := range entries {
				wantPath(t, l, entries, i)
			}
		}
	}
}

func TestProofOfEachBeginning(t *testing.T) {
	for n := range most + 1 {
		for _, entries := range lists(n) {
			l := of(t, entries)
			for m := range n + 1 {
				wantProof(t, l, entries, m)
			}
		}
	}
}

func TestRootsAndProofsThatThereAreNot(t *testing.T) {
	for n := range 20 {
		wantNoneOf(t, of(t, unlike(n)), outside(n)...)
	}
}

// Whoever held the head of a ledger goes on from it, how much the ledger may have
// grown: its head is that of the first so many, of whatever is behind them.
func TestHeadsOfBeginnings(t *testing.T) {
	var heads []api.Hash
	l := ledger.New()
	for n := range most + 1 {
		heads = append(heads, l.Head())
		for m, head := range heads {
			if root, ok := l.Root(m); !ok || ledger.HeadOf(m, root) != head {
				t.Fatalf("head of %d of %d: %x, %v", m, n, head, ok)
			}
		}
		l.Add(entry(n))
	}
}

func TestHeadOfNone(t *testing.T) {
	want := headOfBy(0, sha.Sum(nil))
	if head := ledger.New().Head(); head != want || head != ledger.HeadOf(0, sha.Sum(nil)) {
		t.Fatalf("%x, not %x", head, want)
	}
}
