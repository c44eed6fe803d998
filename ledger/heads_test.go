package ledger_test

import (
	"slices"
	"testing"

	"estreat/api"
	"estreat/ledger"
	"estreat/tree"
)

// P21.3: heads tell entries

// heads keeps of whom a head is, and tells where two have the same.
type heads struct {
	t    *testing.T
	seen map[api.Hash][]api.Entry
}

func newHeads(t *testing.T) *heads {
	return &heads{t, map[api.Hash][]api.Entry{}}
}

func (h *heads) add(entries []api.Entry) {
	h.t.Helper()
	head := of(h.t, entries).Head()
	other, is := h.seen[head]
	if is && !slices.Equal(other, entries) {
		h.t.Fatalf("%v and %v have the head %x", entries, other, head)
	}
	h.seen[head] = slices.Clone(entries)
}

// wantDifferent looks whether so many heads were seen.
func (h *heads) wantDifferent(n int) {
	h.t.Helper()
	if len(h.seen) != n {
		h.t.Fatalf("%d heads, not %d", len(h.seen), n)
	}
}

// changed is what one entry may be instead: each part of it another.
func changed(e api.Entry) []api.Entry {
	var l []api.Entry
	for bit := range 256 {
		l = append(l, api.Entry{Schema: turned(e.Schema, bit), Groups: e.Groups, Root: e.Root}, api.Entry{Schema: e.Schema, Groups: e.Groups, Root: turned(e.Root, bit)})
	}
	for _, g := range groups() {
		l = append(l, api.Entry{Schema: e.Schema, Groups: g, Root: e.Root})
	}
	for bit := range 20 {
		l = append(l, api.Entry{Schema: e.Schema, Groups: e.Groups ^ 1<<bit&(mostGroups-1), Root: e.Root})
	}
	l = append(l, api.Entry{Schema: e.Root, Groups: e.Groups, Root: e.Schema})
	return slices.DeleteFunc(l, func(other api.Entry) bool { return other == e })
}

func TestHeadsWhereAPartOfAnEntryIsAnother(t *testing.T) {
	for n := 1; n <= 5; n++ {
		h := newHeads(t)
		entries := unlike(n)
		h.add(entries)
		for i := range entries {
			for _, e := range changed(entries[i]) {
				other := slices.Clone(entries)
				other[i] = e
				h.add(other)
				if l := of(t, other); l.Head() == of(t, entries).Head() {
					t.Fatalf("%d entries, of which %d is %v: the same head", n, i, e)
				}
			}
		}
		if len(h.seen) < 520*n {
			t.Fatalf("%d heads", len(h.seen))
		}
	}
}

func TestHeadsOfUnlikeNumbersOfEntries(t *testing.T) {
	for _, entries := range []func(n int) []api.Entry{
		unlike,
		func(n int) []api.Entry { return again(n, 1) },
		func(n int) []api.Entry { return again(n, 2) },
		func(n int) []api.Entry { return again(n, 3) },
	} {
		h := newHeads(t)
		for n := range 200 {
			h.add(entries(n))
		}
		h.wantDifferent(200)
	}
}

func TestHeadsOfEntriesInAnotherOrder(t *testing.T) {
	h := newHeads(t)
	for n := range 6 {
		orders(unlike(n), h.add)
	}
	h.wantDifferent(1 + 1 + 2 + 6 + 24 + 120)
	entries := unlike(50)
	for i := range 49 {
		other := slices.Clone(entries)
		other[i], other[i+1] = other[i+1], other[i]
		h.add(other)
	}
	h.wantDifferent(154 + 49)
}

// orders calls f with the entries in each order.
func orders(entries []api.Entry, f func([]api.Entry)) {
	var fill func(chosen, left []api.Entry)
	fill = func(chosen, left []api.Entry) {
		if len(left) == 0 {
			f(chosen)
		}
		for i, e := range left {
			fill(append(slices.Clone(chosen), e), slices.Delete(slices.Clone(left), i, i+1))
		}
	}
	fill(nil, entries)
}

// All lists of up to six entries, of three that differ in one part each.
func TestHeadsOfAllListsOfThree(t *testing.T) {
	three := []api.Entry{{}, {Groups: 1}, {Root: turned(api.Hash{}, 0)}}
	h := newHeads(t)
	var fill func(entries []api.Entry, left int)
	fill = func(entries []api.Entry, left int) {
		h.add(entries)
		if left == 0 {
			return
		}
		for _, e := range three {
			fill(append(slices.Clone(entries), e), left-1)
		}
	}
	fill(nil, 6)
	h.wantDifferent(1 + 3 + 9 + 27 + 81 + 243 + 729)
}

// The same entries have the same head, whatever else was asked or refused meanwhile.
func TestHeadsOfTheSameEntries(t *testing.T) {
	for n := range most {
		a, b := ledger.New(), ledger.New()
		for i, e := range unlike(n) {
			a.Add(e)
			b.Add(api.Entry{Groups: -1 - i})
			b.Add(e)
			b.Head()
			b.Path(i)
			b.Proof(i)
			b.Forms()
		}
		if a.Head() != b.Head() || a.Head() != headBy(unlike(n)) {
			t.Fatalf("%d entries: %x and %x", n, a.Head(), b.Head())
		}
	}
}

func TestHeadsOfSizesAndRoots(t *testing.T) {
	seen := map[api.Hash]int{}
	roots := []api.Hash{{}, filled(0xff), digest(1), tree.Root(nil)}
	for bit := range 256 {
		roots = append(roots, turned(digest(1), bit))
	}
	for _, size := range sizes() {
		for _, root := range roots {
			seen[ledger.HeadOf(size, root)]++
		}
	}
	if len(seen) != len(sizes())*len(roots) {
		t.Fatalf("%d heads of %d sizes and %d roots", len(seen), len(sizes()), len(roots))
	}
}

// A head isn't the root, nor the digest of a leaf of the same bytes.
func TestHeadsAreNoRootsAndNoLeaves(t *testing.T) {
	for n := range 20 {
		l := of(t, unlike(n))
		root, _ := l.Root(n)
		size := make([]byte, 8)
		size[0] = byte(n)
		if head := l.Head(); head == root || head == tree.Leaf(slices.Concat(size, root[:])) {
			t.Fatalf("head of %d: %x", n, head)
		}
	}
}
