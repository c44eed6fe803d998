package ledger_test

import (
	"bytes"
	"slices"
	"testing"

	"estreat/api"
	"estreat/ledger"
	"estreat/num"
)

// P21.3, R4 and R7: what is answered is new memory, and the same each time.

// answers is all that a ledger answers.
type answers struct {
	entries      []api.Entry
	roots        []api.Hash
	head         api.Hash
	paths, proof [][]api.Hash
	forms        [][]byte
}

func asked(l *ledger.Ledger) answers {
	a := answers{head: l.Head(), forms: l.Forms()}
	for i := range l.Size() {
		e, _ := l.Entry(i)
		path, _ := l.Path(i)
		a.entries, a.paths = append(a.entries, e), append(a.paths, path)
	}
	for n := range l.Size() + 1 {
		root, _ := l.Root(n)
		proof, _ := l.Proof(n)
		a.roots, a.proof = append(a.roots, root), append(a.proof, proof)
	}
	return a
}

// wantOf looks whether these are the answers of a ledger of the entries.
func (a answers) wantOf(t *testing.T, entries []api.Entry) {
	t.Helper()
	n := len(entries)
	if a.head != headBy(entries) || !slices.Equal(a.entries, entries) || !slices.EqualFunc(a.forms, formsBy(entries), bytes.Equal) {
		t.Fatalf("%d entries: the head, an entry or a form is another one", n)
	}
	if len(a.paths) != n || len(a.roots) != n+1 || len(a.proof) != n+1 {
		t.Fatalf("%d entries: %d paths, %d roots, %d proofs", n, len(a.paths), len(a.roots), len(a.proof))
	}
	for i, path := range a.paths {
		if !slices.Equal(path, pathBy(entries, i)) {
			t.Fatalf("%d entries: path %d is another one", n, i)
		}
	}
	for m := range n + 1 {
		if a.roots[m] != rootBy(entries[:m]) || !slices.Equal(a.proof[m], proofBy(entries, m, false)) {
			t.Fatalf("%d entries: root or proof of %d is another one", n, m)
		}
	}
}

// overwritten writes over all of it, behind the lists' lengths, too.
func (a answers) overwritten() {
	for i := range a.entries {
		a.entries[i] = api.Entry{Schema: digest(-1), Groups: -1, Root: digest(-2)}
	}
	for i := range a.roots {
		clear(a.roots[i][:])
	}
	clear(a.head[:])
	for _, l := range slices.Concat(a.paths, a.proof) {
		fill(l, digest(-3))
	}
	for _, b := range a.forms {
		fill(b, 0xee)
	}
	fill(a.forms, []byte("over"))
}

func fill[T any](l []T, v T) {
	_ = append(l, v, v)
	full := l[:cap(l)]
	for i := range full {
		full[i] = v
	}
}

func TestWhatIsAnsweredMayBeWrittenOver(t *testing.T) {
	for n := range 20 {
		entries := unlike(n)
		l := of(t, entries)
		first, second := asked(l), asked(l)
		first.wantOf(t, entries)
		first.overwritten()
		second.wantOf(t, entries)
		asked(l).wantOf(t, entries)
		second.overwritten()
		wantLedger(t, l, entries)
	}
}

// What was answered before stays as it was, of however many entries that come then.
func TestAddChangesNothingThatWasAnswered(t *testing.T) {
	for n := range 12 {
		entries := unlike(n + 12)
		l := of(t, entries[:n])
		var told []answers
		for i, e := range entries[n:] {
			told = append(told, asked(l))
			l.Add(e)
			l.Add(api.Entry{Groups: -1})
			for k, a := range told {
				a.wantOf(t, entries[:n+k])
			}
			asked(l).wantOf(t, entries[:n+i+1])
		}
		for _, a := range told {
			a.overwritten()
		}
		wantLedger(t, l, entries)
	}
}

// An append to what was answered is no part of the ledger, and what is added then
// isn't written into it.
func TestAppendToWhatWasAnswered(t *testing.T) {
	for n := range 20 {
		entries := unlike(n + 1)
		l := of(t, entries[:n])
		a := asked(l)
		forms := append(a.forms, []byte("more"), []byte("and more"))
		var grown [][]byte
		for _, b := range a.forms {
			grown = append(grown, append(b, 1, 2, 3))
		}
		var longer [][]api.Hash
		for _, p := range slices.Concat(a.paths, a.proof) {
			longer = append(longer, append(p, digest(1), digest(2)))
		}
		l.Add(entries[n])
		a.wantOf(t, entries[:n])
		wantLedger(t, l, entries)
		if string(forms[n]) != "more" || string(forms[n+1]) != "and more" {
			t.Fatalf("%d entries: %x behind the forms", n, forms[n:])
		}
		for i, b := range grown {
			if !bytes.Equal(b, append(formBy(entries[i]), 1, 2, 3)) {
				t.Fatalf("form %d of %d: %x", i, n, b)
			}
		}
		for i, p := range longer {
			if !slices.Equal(p[len(p)-2:], []api.Hash{digest(1), digest(2)}) {
				t.Fatalf("list %d of %d entries: %x", i, n, p)
			}
		}
	}
}

// No two lists of one answer share memory.
func TestFormsOfOneAnswerShareNothing(t *testing.T) {
	entries := again(9, 2)
	forms := of(t, entries).Forms()
	for i := range forms {
		fill(forms[i], byte(i))
		for k := i + 1; k < len(forms); k++ {
			if !bytes.Equal(forms[k], formBy(entries[k])) {
				t.Fatalf("form %d was written over with form %d", k, i)
			}
		}
	}
	for i, b := range forms {
		if slices.ContainsFunc(b, func(c byte) bool { return c != byte(i) }) {
			t.Fatalf("form %d was written over: %x", i, b)
		}
	}
}

func TestPutIsNewMemory(t *testing.T) {
	for i := range 30 {
		e := entry(i)
		a, b := ledger.Put(e), ledger.Put(e)
		fill(a, 0xee)
		if !bytes.Equal(b, formBy(e)) || !bytes.Equal(ledger.Put(e), formBy(e)) || e != entry(i) {
			t.Fatalf("%x, not %x", b, formBy(e))
		}
	}
}

// What is put, and what is added, hangs on nothing that is written over then.
func TestAddKeepsValuesAlone(t *testing.T) {
	e := entry(3)
	l := ledger.New()
	l.Add(e)
	fill(ledger.Put(e), 0)
	clear(e.Schema[:])
	clear(e.Root[:])
	e.Groups = 0
	wantLedger(t, l, []api.Entry{entry(3)})
	told, _ := l.Entry(0)
	clear(told.Schema[:])
	told.Groups = 77
	wantLedger(t, l, []api.Entry{entry(3)})
}

func TestTakeKeepsNothingOfItsBytes(t *testing.T) {
	b := slices.Concat(ledger.Put(entry(1)), ledger.Put(entry(2)))
	was := slices.Clone(b)
	r := num.NewReader(b)
	first := ledger.Take(r)
	if !bytes.Equal(b, was) {
		t.Fatal("the bytes are others")
	}
	fill(b, 0xee)
	second := ledger.Take(r)
	if first != entry(1) || second != entry(2) {
		t.Fatalf("%v and %v", first, second)
	}
}

func TestSameAnswerEachTime(t *testing.T) {
	for n := range 15 {
		l := of(t, unlike(n))
		for range 3 {
			asked(l).wantOf(t, unlike(n))
			asked(of(t, again(n, 2))).wantOf(t, again(n, 2))
		}
	}
}
