package group_test

import (
	"bytes"
	"math"
	"slices"
	"strconv"
	"strings"
	"testing"

	"estreat/api"
	"estreat/bitmap"
	"estreat/chunk"
	"estreat/group"
	"estreat/num"
	"estreat/sha"
)

var nothing = api.Value{}

func number(n int64) api.Value { return api.Value{Kind: api.KInt, N: n} }

func text(s string) api.Value { return api.Value{Kind: api.KText, S: s} }

// long is a text of so many bytes, of which first and last are unlike.
func long(n int) string {
	return "l" + strings.Repeat("o", n-2) + "g"
}

// Columns by their kind and way, with a Null behind those that may have nothing.

func ints(way int) api.Column      { return api.Column{Kind: api.KInt, Way: way} }
func intsNull(way int) api.Column  { return api.Column{Kind: api.KInt, Null: true, Way: way} }
func texts(way int) api.Column     { return api.Column{Kind: api.KText, Way: way} }
func textsNull(way int) api.Column { return api.Column{Kind: api.KText, Null: true, Way: way} }

// one is the schema of one column of numbers.
func one() []api.Column { return []api.Column{ints(api.Auto)} }

// every is a schema with a column of each kind and each way, that may have nothing
// and that may not.
func every() []api.Column {
	return []api.Column{
		ints(api.Auto), ints(api.Plain), ints(api.Runs), ints(api.Delta), ints(api.Dict), ints(api.Fore), texts(api.Auto), texts(api.Texts),
		intsNull(api.Auto), intsNull(api.Plain), intsNull(api.Runs), intsNull(api.Delta), intsNull(api.Dict), intsNull(api.Fore), textsNull(api.Auto), textsNull(api.Texts),
	}
}

// column is rows of one value each.
func column(l ...api.Value) [][]api.Value {
	var rows [][]api.Value
	for _, v := range l {
		rows = append(rows, []api.Value{v})
	}
	return rows
}

// numbers is rows of one number each.
func numbers(l ...int64) [][]api.Value {
	var rows [][]api.Value
	for _, n := range l {
		rows = append(rows, []api.Value{number(n)})
	}
	return rows
}

// chance is a number that looks like any other, the same at each call.
func chance(i int) uint64 {
	v := uint64(i+1) * 6364136223846793005
	v ^= v >> 29
	v *= 2862933555777941757
	return v ^ v>>32
}

// hat tells one number behind the other that look like any.
type hat int

// below is one from 0 to n - 1.
func (h *hat) below(n int) int {
	*h++
	return int(chance(int(*h)) >> 7 % uint64(n))
}

func (h *hat) column() api.Column {
	c := api.Column{Kind: api.KInt, Null: h.below(2) == 0, Way: h.below(6) - 1}
	if h.below(3) == 0 {
		c.Kind, c.Way = api.KText, []int{api.Auto, api.Texts}[h.below(2)]
	}
	return c
}

func (h *hat) schema() []api.Column {
	var s []api.Column
	for range 1 + h.below(4) {
		s = append(s, h.column())
	}
	return s
}

// value is one that may stand in the column.
func (h *hat) value(c api.Column) api.Value {
	switch {
	case c.Null && h.below(3) == 0:
		return nothing
	case c.Kind == api.KText:
		return text([]string{"", "a", "ab", "b", "\xff", "\x00", "abc", long(130)}[h.below(8)])
	}
	return number([]int64{0, 1, 2, 3, -1, -2, 5, 100, math.MinInt64, math.MaxInt64}[h.below(10)])
}

func (h *hat) rows(s []api.Column, n int) [][]api.Value {
	var rows [][]api.Value
	for range n {
		var row []api.Value
		for _, c := range s {
			row = append(row, h.value(c))
		}
		rows = append(rows, row)
	}
	return rows
}

// places is some of the places 0 to n - 1, rising.
func (h *hat) places(n int) []int {
	of := 1 + h.below(4)
	var l []int
	for i := range n {
		if h.below(of) == 0 {
			l = append(l, i)
		}
	}
	return l
}

// upTo is the places 0 to n - 1.
func upTo(n int) []int {
	var l []int
	for i := range n {
		l = append(l, i)
	}
	return l
}

// What a group has, by the words of the document.

// bitsOf is the bytes of the set of n places of which these are marked.
func bitsOf(n int, marked []int) []byte {
	b := make([]byte, (n+7)/8)
	for _, i := range marked {
		b[i/8] += 1 << (i % 8)
	}
	return b
}

func valuesOf(rows [][]api.Value, c int) []api.Value {
	var l []api.Value
	for _, row := range rows {
		l = append(l, row[c])
	}
	return l
}

// behind is whether a is behind b, both of one kind.
func behind(a, b api.Value) bool {
	return a.N > b.N || a.S > b.S
}

func zoneOf(l []api.Value) api.Zone {
	var z api.Zone
	for _, v := range l {
		if v == nothing {
			z.Nulls++
			continue
		}
		if !z.Some || behind(z.Min, v) {
			z.Min = v
		}
		if !z.Some || behind(v, z.Max) {
			z.Max = v
		}
		z.Some = true
	}
	return z
}

func chunkOf(t *testing.T, l []api.Value, c api.Column) []byte {
	t.Helper()
	b, e := chunk.Put(l, c.Kind, c.Way)
	if e != api.OK {
		t.Fatal(e)
	}
	return b
}

// parts is what a group tells of itself, and of which its chunks are those of the
// columns cols.
type parts struct {
	schema []api.Column
	header api.Header
	dead   []byte
	cols   []int
	chunks [][]byte
}

// partsOf is the parts of a group that has these rows, and of them these dead ones,
// with all columns.
func partsOf(t *testing.T, s []api.Column, rows [][]api.Value, dead ...int) parts {
	t.Helper()
	p := parts{schema: s, dead: bitsOf(len(rows), dead), cols: upTo(len(s))}
	p.header = api.Header{Rows: len(rows), Live: len(rows) - len(dead), Dead: sha.Sum(p.dead)}
	for i, c := range s {
		l := valuesOf(rows, i)
		b := chunkOf(t, l, c)
		p.chunks = append(p.chunks, b)
		p.header.Cols = append(p.header.Cols, api.ColHead{Zone: zoneOf(l), Chunk: sha.Sum(b)})
	}
	return p
}

// of is p with these columns alone.
func (p parts) of(cols ...int) parts {
	all := p.chunks
	p.cols, p.chunks = cols, nil
	for _, c := range cols {
		p.chunks = append(p.chunks, all[c])
	}
	return p
}

// copied is p in memory of its own.
func (p parts) copied() parts {
	q := parts{schema: slices.Clone(p.schema), header: p.header, dead: bytes.Clone(p.dead), cols: slices.Clone(p.cols)}
	q.header.Cols = slices.Clone(p.header.Cols)
	for _, b := range p.chunks {
		q.chunks = append(q.chunks, bytes.Clone(b))
	}
	return q
}

// withDead is p with other bytes of the set of the dead ones, and their digest.
func (p parts) withDead(b ...byte) parts {
	p = p.copied()
	p.dead, p.header.Dead = b, sha.Sum(b)
	return p
}

// withChunk is p with another chunk of the column c, and its digest.
func (p parts) withChunk(c int, b []byte) parts {
	p = p.copied()
	p.header.Cols[c].Chunk = sha.Sum(b)
	if i := slices.Index(p.cols, c); i >= 0 {
		p.chunks[i] = b
	}
	return p
}

// withZone is p with another zone of the column c.
func (p parts) withZone(c int, z api.Zone) parts {
	p = p.copied()
	p.header.Cols[c].Zone = z
	return p
}

// withHeader is p with a header that is changed by f.
func (p parts) withHeader(f func(h *api.Header)) parts {
	p = p.copied()
	f(&p.header)
	return p
}

// rowsAndAlive is what p opens as: the values of its columns alone, of rows that are
// these.
func (p parts) rowsAndAlive(rows [][]api.Value) ([][]api.Value, []bool) {
	var opened [][]api.Value
	var alive []bool
	for i := range rows {
		row := make([]api.Value, len(p.schema))
		for _, c := range p.cols {
			row[c] = rows[i][c]
		}
		opened = append(opened, row)
		alive = append(alive, p.dead[i/8]>>(i%8)&1 == 0)
	}
	return opened, alive
}

// Holding one thing against another.

func sameRows(a, b [][]api.Value) bool {
	return slices.EqualFunc(a, b, func(x, y []api.Value) bool { return slices.Equal(x, y) })
}

func sameBytes(a, b [][]byte) bool {
	return slices.EqualFunc(a, b, bytes.Equal)
}

func sameHeader(a, b api.Header) bool {
	return a.Rows == b.Rows && a.Live == b.Live && a.Dead == b.Dead && slices.Equal(a.Cols, b.Cols)
}

// isZero is whether h is the zero header: beside an error it has no columns.
func isZero(h api.Header) bool {
	return sameHeader(h, api.Header{})
}

// made is New's group, which there must be.
func made(t *testing.T, s []api.Column, rows [][]api.Value, dead ...int) *group.Group {
	t.Helper()
	g, e := group.New(s, rows)
	if e != api.OK || g == nil {
		t.Fatalf("New: %v", e)
	}
	for _, i := range dead {
		if !g.Kill(i) {
			t.Fatalf("%d isn't killed", i)
		}
	}
	return g
}

// told is the parts that g tells.
func told(s []api.Column, g *group.Group) parts {
	p := parts{schema: s, header: g.Header(), dead: g.Dead(), cols: upTo(len(s))}
	for c := range s {
		p.chunks = append(p.chunks, g.Chunk(c))
	}
	return p
}

// wantGroup looks whether g has these rows, of which these are dead, in all that it
// tells.
func wantGroup(t *testing.T, g *group.Group, s []api.Column, rows [][]api.Value, dead ...int) {
	t.Helper()
	want, got := partsOf(t, s, rows, dead...), told(s, g)
	if g.Len() != len(rows) || g.Live() != len(rows)-len(dead) {
		t.Fatalf("Len %d, Live %d, want %d, %d", g.Len(), g.Live(), len(rows), len(rows)-len(dead))
	}
	if !sameHeader(got.header, want.header) {
		t.Fatalf("header %v, want %v", got.header, want.header)
	}
	if !bytes.Equal(got.dead, want.dead) || !sameBytes(got.chunks, want.chunks) {
		t.Fatalf("dead %x, chunks %x, want %x, %x", got.dead, got.chunks, want.dead, want.chunks)
	}
	for i, row := range rows {
		if !slices.Equal(g.Row(i), row) || g.Alive(i) == slices.Contains(dead, i) {
			t.Fatalf("row %d: %v, %v, want %v, dead %v", i, g.Row(i), g.Alive(i), row, dead)
		}
	}
	for _, i := range farFrom(len(rows)) {
		if g.Row(i) != nil || g.Alive(i) {
			t.Fatalf("row %d: %v, %v", i, g.Row(i), g.Alive(i))
		}
	}
	for _, c := range farFrom(len(s)) {
		if g.Chunk(c) != nil {
			t.Fatalf("chunk %d: %x", c, g.Chunk(c))
		}
	}
}

// farFrom is numbers that are no places of n.
func farFrom(n int) []int {
	return []int{-1, -2, -8, -64, -n, -n - 1, -1 << 16, -1 << 32, math.MinInt, math.MinInt + 1, n, n + 1, n + 7, n + 8, 1<<16 + n, 1<<32 + n, 1 << 32, math.MaxInt - 1, math.MaxInt}
}

// Forms.

// varOf is a short number.
func varOf(v uint64) []byte {
	var b []byte
	for v >= 128 {
		b = append(b, byte(v%128+128))
		v /= 128
	}
	return append(b, byte(v))
}

func valueForm(v api.Value) []byte {
	switch v.Kind {
	case api.KInt:
		return append([]byte{1}, varOf(num.Zig(v.N))...)
	case api.KText:
		return slices.Concat([]byte{2}, varOf(uint64(len(v.S))), []byte(v.S))
	}
	return []byte{byte(v.Kind)}
}

func headerForm(h api.Header) []byte {
	b := slices.Concat(varOf(uint64(h.Rows)), varOf(uint64(h.Live)), h.Dead[:])
	for _, c := range h.Cols {
		b = append(b, varOf(uint64(c.Zone.Nulls))...)
		if c.Zone.Some {
			b = slices.Concat(b, []byte{1}, valueForm(c.Zone.Min), valueForm(c.Zone.Max))
		} else {
			b = append(b, 0)
		}
		b = append(b, c.Chunk[:]...)
	}
	return b
}

// soundBy is whether h is sound for s.
func soundBy(h api.Header, s []api.Column) bool {
	if h.Rows < 1 || h.Rows > 65536 || h.Live < 0 || h.Live > h.Rows || len(h.Cols) != len(s) {
		return false
	}
	for i, c := range h.Cols {
		if !zoneIsSound(c.Zone, h.Rows, s[i]) {
			return false
		}
	}
	return true
}

func zoneIsSound(z api.Zone, rows int, c api.Column) bool {
	if z.Nulls < 0 || z.Nulls > rows || z.Nulls > 0 && !c.Null {
		return false
	}
	if z.Nulls == rows {
		return z == api.Zone{Nulls: rows}
	}
	return z.Some && stands(z.Min, c.Kind) && stands(z.Max, c.Kind) && !behind(z.Min, z.Max)
}

// stands is whether v is something that may stand in a column of the kind.
func stands(v api.Value, kind int) bool {
	switch kind {
	case api.KInt:
		return v == number(v.N)
	case api.KText:
		return v == text(v.S) && len(v.S) <= 65536
	}
	return false
}

// openedBy is what Open answers by the words of the document: the rows, and which are
// alive.
func openedBy(p parts) ([][]api.Value, []bool, api.Errno) {
	rises := true
	for i, c := range p.cols {
		if c < 0 || c >= len(p.schema) || i > 0 && c <= p.cols[i-1] {
			rises = false
		}
	}
	if !schemaIsRight(p.schema) || !soundBy(p.header, p.schema) || !rises || len(p.chunks) != len(p.cols) {
		return nil, nil, api.ErrArg
	}
	if sha.Sum(p.dead) != p.header.Dead {
		return nil, nil, api.ErrHash
	}
	set, e := bitmap.Read(p.dead, p.header.Rows)
	if e != api.OK {
		return nil, nil, e
	}
	if p.header.Rows-set.Count() != p.header.Live {
		return nil, nil, api.ErrForm
	}
	rows := make([][]api.Value, p.header.Rows)
	alive := make([]bool, p.header.Rows)
	for i := range rows {
		rows[i], alive[i] = make([]api.Value, len(p.schema)), !set.Has(i)
	}
	for i, c := range p.cols {
		l, e := columnBy(p.schema[c], p.header.Cols[c], p.header.Rows, p.chunks[i])
		if e != api.OK {
			return nil, nil, e
		}
		for k, v := range l {
			rows[k][c] = v
		}
	}
	return rows, alive, api.OK
}

func columnBy(c api.Column, h api.ColHead, rows int, b []byte) ([]api.Value, api.Errno) {
	if sha.Sum(b) != h.Chunk {
		return nil, api.ErrHash
	}
	l, e := chunk.Get(b, c.Kind, rows)
	if e != api.OK {
		return nil, e
	}
	if !c.Null && slices.Contains(l, nothing) {
		return nil, api.ErrKind
	}
	if zoneOf(l) != h.Zone {
		return nil, api.ErrForm
	}
	return l, api.OK
}

func schemaIsRight(s []api.Column) bool {
	for _, c := range s {
		switch {
		case c.Way == -1 && (c.Kind == 1 || c.Kind == 2):
		case c.Kind == 1 && c.Way >= 0 && c.Way <= 4:
		case c.Kind == 2 && c.Way == 5:
		default:
			return false
		}
	}
	return len(s) > 0 && len(s) <= 64
}

// shown is what a test tells of the parts.
func shown(p parts) string {
	var b strings.Builder
	b.WriteString("rows " + strconv.Itoa(p.header.Rows) + ", live " + strconv.Itoa(p.header.Live) + ", columns")
	for _, c := range p.cols {
		b.WriteString(" " + strconv.Itoa(c))
	}
	return b.String()
}
