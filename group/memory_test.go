package group_test

import (
	"bytes"
	"slices"
	"testing"

	"estreat/api"
	"estreat/group"
	"estreat/num"
)

// P18.4 and R4: what is handed in stays and isn't kept, what is answered is new memory.

// cut is l with room behind it that has something in it, which nobody may write into.
func cut[T any](l []T, behind ...T) []T {
	return slices.Concat(l, behind)[: len(l) : len(l)+len(behind)]
}

func cloneRows(rows [][]api.Value) [][]api.Value {
	var l [][]api.Value
	for _, row := range rows {
		l = append(l, slices.Clone(row))
	}
	return l
}

// overwritten writes over all that a group answers.
func overwritten(g *group.Group) {
	for i := range g.Len() {
		row := g.Row(i)
		for c := range row {
			row[c] = text("over")
		}
		_ = append(row, text("over"))
	}
	h := g.Header()
	for c := range h.Cols {
		h.Cols[c] = api.ColHead{}
	}
	_ = append(h.Cols, api.ColHead{})
	for _, b := range [][]byte{g.Dead(), g.Chunk(0), g.Chunk(1), g.Chunk(2)} {
		for i := range b {
			b[i] ^= 0xff
		}
		_ = append(b, 1, 2, 3)
	}
}

func TestNewKeepsNothingThatIsHandedIn(t *testing.T) {
	s, rows, _ := mixed(t)
	wantSchema, wantRows := slices.Clone(s), cloneRows(rows)
	for i, row := range rows {
		rows[i] = cut(row, number(77))
	}
	rows = cut(rows, []api.Value{number(7)})
	g := made(t, s, rows, 4)
	c := g.Copy()
	if !slices.Equal(s, wantSchema) || !sameRows(rows, wantRows) {
		t.Error("what was handed in is another one")
	}
	for _, row := range rows {
		if row[:4][3] != number(77) {
			t.Error("written behind a row")
		}
	}
	for i := range rows {
		for j := range rows[i] {
			rows[i][j] = text("over")
		}
	}
	clear(rows)
	clear(s)
	wantGroup(t, g, wantSchema, wantRows, 4)
	overwritten(g)
	overwritten(c)
	wantGroup(t, g, wantSchema, wantRows, 4)
	wantGroup(t, c, wantSchema, wantRows, 4)
}

func TestLoadKeepsNothingThatIsHandedIn(t *testing.T) {
	_, rows, p := mixed(t)
	want := p.copied()
	p.dead, p.chunks, p.header.Cols = cut(p.dead, 0xee), cut(p.chunks, []byte{9}), cut(p.header.Cols, api.ColHead{})
	for c, b := range p.chunks {
		p.chunks[c] = cut(b, 0xee)
	}
	g := wantLoaded(t, p, rows, 1, 9)
	c := g.Copy()
	if !sameHeader(p.header, want.header) || !bytes.Equal(p.dead, want.dead) || !sameBytes(p.chunks, want.chunks) || !slices.Equal(p.schema, want.schema) {
		t.Error("what was handed in is another one")
	}
	if p.dead[:3][2] != 0xee || p.chunks[0][:len(want.chunks[0])+1][len(want.chunks[0])] != 0xee {
		t.Error("written behind")
	}
	writeOver(p)
	wantGroup(t, g, want.schema, rows, 1, 9)
	overwritten(g)
	overwritten(c)
	wantGroup(t, g, want.schema, rows, 1, 9)
	wantGroup(t, c, want.schema, rows, 1, 9)
}

// writeOver writes over all of p.
func writeOver(p parts) {
	for i := range p.dead {
		p.dead[i] ^= 0xff
	}
	for _, b := range p.chunks {
		for i := range b {
			b[i] ^= 0xff
		}
	}
	clear(p.chunks)
	clear(p.header.Cols)
	clear(p.schema)
	clear(p.cols)
}

func TestOpenKeepsNothingThatIsHandedIn(t *testing.T) {
	_, rows, p := mixed(t)
	p = p.of(0, 2)
	want := p.copied()
	wantRows, wantAlive := p.rowsAndAlive(rows)
	p.cols, p.dead, p.chunks = cut(p.cols, 99), cut(p.dead, 0xee), cut(p.chunks, []byte{9})
	got, alive, e := group.Open(p.schema, p.header, p.dead, p.cols, p.chunks)
	if e != api.OK {
		t.Fatal(e)
	}
	if !sameHeader(p.header, want.header) || !bytes.Equal(p.dead, want.dead) || !sameBytes(p.chunks, want.chunks) || !slices.Equal(p.schema, want.schema) || !slices.Equal(p.cols, want.cols) {
		t.Error("what was handed in is another one")
	}
	if p.cols[:3][2] != 99 || p.dead[:3][2] != 0xee || p.chunks[:3][2][0] != 9 {
		t.Error("written behind")
	}
	writeOver(p)
	if !sameRows(got, wantRows) || !slices.Equal(alive, wantAlive) {
		t.Error("what was answered is another one")
	}
	// No row shares memory with another one.
	for i := range got {
		_ = append(got[i], text("over"))
	}
	if !sameRows(got, wantRows) {
		t.Error("rows share memory")
	}
}

func TestHeadersAreNewMemory(t *testing.T) {
	h := soundHeads()[3]
	h.Cols = cut(h.Cols, api.ColHead{})
	want := soundHeads()[3]
	b := group.PutHeader(h)
	if !sameHeader(h, want) {
		t.Error("PutHeader changes its header")
	}
	clear(h.Cols)
	if !bytes.Equal(b, headerForm(want)) {
		t.Error("PutHeader keeps its header")
	}
	s := three()
	in := cut(b, 1, 2, 3)
	r := num.NewReader(in)
	got := group.TakeHeader(r, s)
	clear(in)
	clear(s)
	if !sameHeader(got, want) {
		t.Error("TakeHeader keeps what is handed in")
	}
	other := group.TakeHeader(num.NewReader(b), three())
	clear(got.Cols)
	if !sameHeader(other, want) {
		t.Error("headers share memory")
	}
	if !group.Sound(other, three()) || !sameHeader(other, want) {
		t.Error("Sound changes its header")
	}
}

// The same call has the same answer.
func TestAnswersAreTheSameEachTime(t *testing.T) {
	_, rows, p := mixed(t)
	g := wantLoaded(t, p, rows, 1, 9)
	for range 3 {
		wantOpen(t, p, rows)
		wantGroup(t, g, p.schema, rows, 1, 9)
		if !bytes.Equal(group.PutHeader(p.header), headerForm(p.header)) {
			t.Error("PutHeader")
		}
	}
}
