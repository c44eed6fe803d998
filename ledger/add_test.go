package ledger_test

import (
	"bytes"
	"encoding/hex"
	"slices"
	"testing"

	"estreat/api"
	"estreat/ledger"
	"estreat/num"
)

// P21.1: entries, one behind the other

// wantNoneAt looks whether at these places there are no entry and no path.
func wantNoneAt(t *testing.T, l *ledger.Ledger, places ...int) {
	t.Helper()
	for _, i := range places {
		if e, ok := l.Entry(i); ok || e != (api.Entry{}) {
			t.Fatalf("entry %d: %v, %v", i, e, ok)
		}
		if path, ok := l.Path(i); ok || len(path) != 0 {
			t.Fatalf("path of %d: %x, %v", i, path, ok)
		}
	}
}

// wantNoneOf looks whether of the first so many there are no root and no proof.
func wantNoneOf(t *testing.T, l *ledger.Ledger, numbers ...int) {
	t.Helper()
	for _, n := range numbers {
		if root, ok := l.Root(n); ok || root != (api.Hash{}) {
			t.Fatalf("root of %d: %x, %v", n, root, ok)
		}
		if proof, ok := l.Proof(n); ok || len(proof) != 0 {
			t.Fatalf("proof of %d: %x, %v", n, proof, ok)
		}
	}
}

// wantEntries looks whether the ledger has just these.
func wantEntries(t *testing.T, l *ledger.Ledger, want []api.Entry) {
	t.Helper()
	if l.Size() != len(want) {
		t.Fatalf("size %d, not %d", l.Size(), len(want))
	}
	for i, e := range want {
		if got, ok := l.Entry(i); !ok || got != e {
			t.Fatalf("entry %d of %d: %v, %v, not %v", i, len(want), got, ok, e)
		}
	}
	if forms := l.Forms(); !slices.EqualFunc(forms, formsBy(want), bytes.Equal) {
		t.Fatalf("forms of %d: %x, not %x", len(want), forms, formsBy(want))
	}
}

// wantLedger looks, besides, whether its roots and its head are theirs, and some of
// its paths and proofs.
func wantLedger(t *testing.T, l *ledger.Ledger, want []api.Entry) {
	t.Helper()
	wantEntries(t, l, want)
	n := len(want)
	if head := l.Head(); head != headBy(want) {
		t.Fatalf("head of %d: %x, not %x", n, head, headBy(want))
	}
	for _, m := range []int{0, 1, n / 2, n - 1, n} {
		if m >= 0 && m <= n {
			wantRoot(t, l, want, m)
			wantProof(t, l, want, m)
		}
		if m >= 0 && m < n {
			wantPath(t, l, want, m)
		}
	}
	wantNoneAt(t, l, -1, n, n+1)
	wantNoneOf(t, l, -1, n+1, n+2)
}

func TestNewHasNoEntries(t *testing.T) {
	l := ledger.New()
	wantLedger(t, l, nil)
	wantNoneAt(t, l, 0)
	wantNoneAt(t, l, outside(0)...)
	wantNoneOf(t, l, outside(0)...)
	if len(l.Forms()) != 0 {
		t.Fatal("it has forms")
	}
}

func TestAdd(t *testing.T) {
	entries := unlike(most)
	l := ledger.New()
	for i, e := range entries {
		if got := l.Add(e); got != api.OK {
			t.Fatalf("entry %d: error %d", i, got)
		}
		wantLedger(t, l, entries[:i+1])
	}
}

func TestAddOfEachNumberOfGroups(t *testing.T) {
	var want []api.Entry
	l := ledger.New()
	for i, g := range groups() {
		e := api.Entry{Schema: digest(i), Groups: g, Root: digest(i + 100)}
		if got := l.Add(e); got != api.OK {
			t.Fatalf("%d groups: error %d", g, got)
		}
		want = append(want, e)
		wantLedger(t, l, want)
	}
}

// Digests of an entry are any.
func TestAddOfAnyDigests(t *testing.T) {
	var want []api.Entry
	for _, schema := range []api.Hash{{}, filled(0xff), digest(1)} {
		for _, root := range []api.Hash{{}, filled(0xff), digest(1), digest(2)} {
			want = append(want, api.Entry{Schema: schema, Groups: 5, Root: root})
		}
	}
	wantLedger(t, of(t, want), want)
}

func TestAddOfWrongEntries(t *testing.T) {
	for _, n := range []int{0, 1, 2, 3, 8} {
		entries := unlike(n)
		l := of(t, entries)
		for _, g := range noGroups() {
			for _, e := range []api.Entry{{Groups: g}, {Schema: digest(1), Groups: g, Root: digest(2)}, {Schema: entry(0).Schema, Groups: g, Root: entry(0).Root}} {
				if got := l.Add(e); got != api.ErrArg {
					t.Fatalf("%d groups: error %d", g, got)
				}
				wantEntries(t, l, entries)
			}
		}
		wantLedger(t, l, entries)
		// It goes on as if there had been none of them.
		more := unlike(n + 3)
		for _, e := range more[n:] {
			if got := l.Add(e); got != api.OK {
				t.Fatalf("error %d behind wrong ones", got)
			}
			l.Add(api.Entry{Groups: -1})
			l.Add(api.Entry{Groups: mostGroups + 1})
		}
		wantLedger(t, l, more)
	}
}

func TestAddOfTheSameAgainAndAgain(t *testing.T) {
	for n := range most {
		for _, entries := range lists(n) {
			wantLedger(t, of(t, entries), entries)
		}
	}
}

func TestEntriesThatThereAreNot(t *testing.T) {
	for n := range 20 {
		l := of(t, unlike(n))
		wantNoneAt(t, l, n)
		wantNoneAt(t, l, outside(n)...)
	}
}

func TestManyEntries(t *testing.T) {
	for _, n := range []int{63, 64, 65, 127, 128, 129, 255, 256, 257, 1000, 1023, 1024, 1025} {
		for _, entries := range [][]api.Entry{unlike(n), again(n, 1), again(n, 5)} {
			wantLedger(t, of(t, entries), entries)
		}
	}
}

// Ledgers have nothing in common.
func TestLedgersSideBySide(t *testing.T) {
	a, b, none := ledger.New(), ledger.New(), ledger.New()
	var first, second []api.Entry
	for i := range 20 {
		a.Add(entry(i))
		first = append(first, entry(i))
		wantLedger(t, b, second)
		b.Add(entry(i + 50))
		second = append(second, entry(i+50))
		wantLedger(t, a, first)
	}
	wantLedger(t, b, second)
	wantLedger(t, none, nil)
}

func TestKnownHeads(t *testing.T) {
	l := ledger.New()
	for n, x := range knownHeads() {
		root, ok := l.Root(n)
		head := l.Head()
		if !ok || hex.EncodeToString(root[:]) != x.root || hex.EncodeToString(head[:]) != x.head {
			t.Errorf("%d entries: %x and %x, not %s and %s", n, root, head, x.root, x.head)
		}
		if entries := knownEntries(); n < len(entries) {
			l.Add(entries[n])
		}
	}
}

// P21.3: a nil *Ledger

func TestOfNil(t *testing.T) {
	var l *ledger.Ledger
	for _, g := range slices.Concat(groups(), noGroups()) {
		if e := l.Add(api.Entry{Schema: digest(1), Groups: g, Root: digest(2)}); e != api.ErrArg {
			t.Fatalf("%d groups: error %d", g, e)
		}
	}
	if l.Size() != 0 || l.Head() != (api.Hash{}) || len(l.Forms()) != 0 {
		t.Fatalf("%d, %x, %x", l.Size(), l.Head(), l.Forms())
	}
	for _, n := range slices.Concat([]int{0, 1}, outside(0), outside(5)) {
		wantNoneAt(t, l, n)
		wantNoneOf(t, l, n)
	}
}

// P1: whatever is handed in, each call ends.

func TestOfAnyArguments(t *testing.T) {
	for _, l := range []*ledger.Ledger{nil, ledger.New(), of(t, unlike(1)), of(t, unlike(6))} {
		n := l.Size()
		for i := range 200 {
			some := int(chance(i) >> (i % 64))
			for _, k := range []int{some, -some, n + some, n - some} {
				_, isEntry := l.Entry(k)
				_, hasPath := l.Path(k)
				_, hasRoot := l.Root(k)
				_, hasProof := l.Proof(k)
				within := k >= 0 && k < n
				upTo := l != nil && k >= 0 && k <= n
				if isEntry != within || hasPath != within || hasRoot != upTo || hasProof != upTo {
					t.Fatalf("%d of %d: %v, %v, %v, %v", k, n, isEntry, hasPath, hasRoot, hasProof)
				}
				ledger.HeadOf(k, digest(i))
				ledger.Put(api.Entry{Groups: k})
			}
		}
		ledger.Take(nil)
		ledger.Take(num.NewReader(nil))
	}
}
