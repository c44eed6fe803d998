package grow_test

import (
	"bytes"
	"slices"
	"testing"

	"estreat/api"
	"estreat/grow"
	"estreat/tree"
)

// R4 and R7: what is handed in stays and isn't kept, what is answered is new memory,
// and the same each time.

// cut is l with room behind it that has something in it, which nobody may read or
// write into.
func cut[T any](l []T, behind ...T) []T {
	return slices.Concat(l, behind)[: len(l) : len(l)+len(behind)]
}

// roomy is leaves with room behind each of them, and behind the list.
func roomy(n int, behind byte) [][]byte {
	l := unlike(n)
	for i, b := range l {
		l[i] = cut(b, behind, behind)
	}
	return cut(l, []byte{behind}, []byte{behind, behind})
}

// wantRoomy looks whether l is still as roomy made it.
func wantRoomy(t *testing.T, l [][]byte, behind byte) {
	t.Helper()
	n := len(l)
	want := roomy(n, behind)[:n+2]
	for i, b := range l[:n+2] {
		if !bytes.Equal(b[:cap(b)], want[i][:cap(b)]) {
			t.Fatalf("leaf %d of %d is another one: %x, not %x", i, n, b, want[i])
		}
	}
}

func TestLeavesThatAreHandedInStay(t *testing.T) {
	for n := range 35 {
		leaves := roomy(n, 0xee)
		var told [][]api.Hash
		for m := range n + 1 {
			proof, _ := grow.Proof(leaves, m)
			told = append(told, proof)
		}
		wantRoomy(t, leaves, 0xee)
		for _, b := range leaves {
			clear(b[:cap(b)])
		}
		clear(leaves[:cap(leaves)])
		for m, proof := range told {
			if !slices.Equal(proof, proofBy(unlike(n), m, false)) {
				t.Fatalf("%d of %d: the proof hangs on what was handed in", m, n)
			}
		}
	}
}

func TestNilLeavesStayNil(t *testing.T) {
	leaves := [][]byte{nil, {}, nil, {1}, nil}
	for m := range 6 {
		grow.Proof(leaves, m)
	}
	for i, b := range leaves {
		if (b == nil) != (i%2 == 0) {
			t.Fatalf("leaf %d is another one", i)
		}
	}
}

func TestWhatLiesBehindLeavesIsNotRead(t *testing.T) {
	for n := range 35 {
		for m := range n + 3 {
			p, ok := grow.Proof(roomy(n, 1), m)
			q, is := grow.Proof(roomy(n, 2), m)
			if !slices.Equal(p, q) || ok != (m <= n) || is != ok {
				t.Fatalf("%d of %d: what lies behind counts (%v, %v)", m, n, ok, is)
			}
		}
	}
}

func TestAProofThatIsHandedInStays(t *testing.T) {
	proofs(t, func(m, n int, a, b api.Hash, proof []api.Hash) {
		handed := cut(proof, digest(1), digest(2))
		wantTrue(t, m, n, a, b, handed)
		wantFalse(t, m, n, b, a, handed)
		if !slices.Equal(handed[:cap(handed)], slices.Concat(proof, []api.Hash{digest(1), digest(2)})) {
			t.Fatalf("%d of %d: the proof is another one", m, n)
		}
		// What lies behind doesn't fill up a proof that is too short.
		wantFalse(t, m, n, a, b, proof[:len(proof)-1])
		wantFalse(t, m, n, a, b, proof[:0])
		if !slices.Equal(proof, handed) {
			t.Fatalf("%d of %d: what lies behind is another one", m, n)
		}
	})
	// Nor is it written where the proof has no digests.
	for _, x := range []struct{ m, n int }{{0, 0}, {0, 5}, {1, 1}, {5, 5}, {3, 5}} {
		handed := cut([]api.Hash{}, digest(1), digest(2))
		grow.Check(x.m, x.n, digest(3), digest(3), handed)
		grow.Check(x.m, x.n, tree.Root(nil), digest(3), handed)
		if !slices.Equal(handed[:2], []api.Hash{digest(1), digest(2)}) {
			t.Fatalf("%d of %d: what lies behind is another one", x.m, x.n)
		}
	}
}

func TestProofsThatAreAnsweredAreNewMemory(t *testing.T) {
	for n := range 36 {
		leaves := unlike(n)
		var told, again [][]api.Hash
		for m := range n + 1 {
			proof, _ := grow.Proof(leaves, m)
			told = append(told, proof)
			proof, _ = grow.Proof(leaves, m)
			again = append(again, proof)
		}
		for _, proof := range told {
			_ = append(proof, digest(1), digest(2))
			full := proof[:cap(proof)]
			for k := range full {
				full[k] = digest(k)
			}
		}
		for m, proof := range again {
			if !slices.Equal(proof, proofBy(unlike(n), m, false)) {
				t.Fatalf("%d of %d: another's proof was written over", m, n)
			}
		}
		for m := range n + 1 {
			wantProof(t, leaves, m)
		}
	}
}

func TestSameAnswerEachTime(t *testing.T) {
	for n := 1; n <= 35; n++ {
		leaves := unlike(n)
		m := n / 2
		a, b := tree.Root(leaves[:m]), tree.Root(leaves)
		proof, _ := grow.Proof(leaves, m)
		size := grow.Size(m, n)
		for range 3 {
			grow.Proof(like(n, []byte("other")), m)
			grow.Check(m, n, b, a, digests(size))
			again, ok := grow.Proof(leaves, m)
			if !ok || !slices.Equal(again, proof) || grow.Size(m, n) != size || !grow.Check(m, n, a, b, proof) {
				t.Fatalf("%d of %d: another answer", m, n)
			}
		}
	}
}
