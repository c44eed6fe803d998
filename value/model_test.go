package value_test

import (
	"bytes"
	"encoding/binary"
	"math"
	"slices"
	"strings"
	"testing"

	"estreat/api"
	"estreat/num"
	"estreat/value"
)

var nothing = api.Value{}

func number(n int64) api.Value { return api.Value{Kind: api.KInt, N: n} }

func text(s string) api.Value { return api.Value{Kind: api.KText, S: s} }

// long is a text of so many bytes, of which first and last are unlike.
func long(n int) string {
	return "l" + strings.Repeat("o", n-2) + "g"
}

// Columns by their kind, with a Null behind those that may have nothing.

func ints() api.Column      { return api.Column{Kind: api.KInt, Way: api.Auto} }
func intsNull() api.Column  { return api.Column{Kind: api.KInt, Null: true, Way: api.Auto} }
func texts() api.Column     { return api.Column{Kind: api.KText, Way: api.Auto} }
func textsNull() api.Column { return api.Column{Kind: api.KText, Null: true, Way: api.Auto} }

// chance is a number that looks like any other, the same at each call.
func chance(i int) uint64 {
	v := uint64(i+1) * 6364136223846793005
	v ^= v >> 29
	v *= 2862933555777941757
	return v ^ v>>32
}

// oddNumbers are numbers that are no kinds and no ways.
func oddNumbers() []int {
	return []int{
		-2, -3, -255, -256, -257, -1 << 31, -1<<32 + 1, -1 << 32, -1<<32 - 1, math.MinInt, math.MinInt + 1, math.MinInt + 2,
		6, 7, 8, 127, 128, 255, 256, 257, 258, 261, 1<<16 + 1, 1 << 31, 1 << 32, 1<<32 + 1, 1<<32 + 2, 1<<32 + 5, math.MaxInt - 1, math.MaxInt,
	}
}

// edges are numbers at both ends of their range, near 0, and where their forms
// grow by a byte.
func edges() []int64 {
	l := []int64{0, math.MinInt64, math.MinInt64 + 1, math.MaxInt64, math.MaxInt64 - 1}
	for i := range 63 {
		p := int64(1) << i
		l = append(l, p-1, p, p+1, -p, -p-1, -p+1)
	}
	slices.Sort(l)
	return slices.Compact(l)
}

// wordsOf are texts that begin one another, with bytes above 127, and none.
func wordsOf() []string {
	return []string{
		"", "\x00", "\x00\x00", "\x00a", "\x01", "A", "Z", "a", "a\x00", "aa", "ab", "ab\xff", "abc", "b", "z", "\x7f", "\x80", "\xc3\xa4", "\xc3\xbf", "\xff", "\xff\x00", "\xff\xff",
	}
}

// waysOf is the ways of a kind, by the words of the document.
func waysOf(kind int) []int {
	if kind == api.KInt {
		return []int{-1, 0, 1, 2, 3, 4}
	}
	return []int{-1, 5}
}

// stands is whether v may stand in the column c, by the words of the document.
func stands(v api.Value, c api.Column) bool {
	isNothing := v == api.Value{}
	isNumber := v == api.Value{Kind: 1, N: v.N}
	isText := v == api.Value{Kind: 2, S: v.S}
	return isNothing && c.Null || isNumber && c.Kind == 1 || isText && c.Kind == 2
}

// schemaRefusal is Schema's answer by the words of the document.
func schemaRefusal(s []api.Column) api.Errno {
	if len(s) == 0 || len(s) > 64 {
		return api.ErrLimit
	}
	isOther := func(c api.Column) bool { return c.Kind != 1 && c.Kind != 2 }
	if slices.ContainsFunc(s, isOther) {
		return api.ErrKind
	}
	if slices.ContainsFunc(s, func(c api.Column) bool { return !slices.Contains(waysOf(c.Kind), c.Way) }) {
		return api.ErrArg
	}
	return api.OK
}

// rowRefusal is Row's answer by the words of the document.
func rowRefusal(s []api.Column, row []api.Value) api.Errno {
	if len(s) != len(row) {
		return api.ErrArg
	}
	for i, c := range s {
		if !stands(row[i], c) {
			return api.ErrKind
		}
		if len(row[i].S) > 65536 {
			return api.ErrLimit
		}
	}
	return api.OK
}

// formOf is a value's form by the words of the document.
func formOf(v api.Value) []byte {
	b := []byte{byte(v.Kind & 255)}
	if v.Kind == 1 {
		return binary.AppendVarint(b, v.N)
	}
	if v.Kind == 2 {
		return append(binary.AppendUvarint(b, uint64(len(v.S))), v.S...)
	}
	return b
}

// schemaForm is PutSchema's answer by the words of the document.
func schemaForm(s []api.Column) []byte {
	b := []byte{byte(len(s) & 255)}
	for _, c := range s {
		null := byte(0)
		if c.Null {
			null = 1
		}
		b = append(b, byte(c.Kind&255), null, byte((c.Way&255+1)&255))
	}
	return b
}

// rowsForm is what PutRows puts, by the words of the document.
func rowsForm(rows [][]api.Value) []byte {
	b := binary.AppendUvarint(nil, uint64(len(rows)))
	for _, row := range rows {
		for _, v := range row {
			b = append(b, formOf(v)...)
		}
	}
	return b
}

// reading takes from bytes by the words of the document: behind its first error it
// takes nothing any more, and its place is that error's.
type reading struct {
	b  []byte
	at int
	e  api.Errno
}

func (m *reading) stop(e api.Errno) {
	if m.e == api.OK {
		m.e = e
	}
}

func (m *reading) one() int {
	if m.e == api.OK && m.at == len(m.b) {
		m.stop(api.ErrShort)
	}
	if m.e != api.OK {
		return 0
	}
	m.at++
	return int(m.b[m.at-1])
}

// short is a short number; it doesn't go on where it can't be one.
func (m *reading) short() (v uint64) {
	begin := m.at
	for i := 0; m.e == api.OK; i++ {
		c := m.one()
		if m.e == api.OK && (i > 0 && c == 0 || i == 9 && c&127 > 1 || i > 9) {
			m.stop(api.ErrForm)
		}
		if m.e == api.OK && c < 128 {
			return v + uint64(c)<<(7*i)
		}
		v += uint64(c&127) << (7 * i)
	}
	m.at = begin
	return 0
}

// text is a blob of at most MaxText bytes.
func (m *reading) text() string {
	begin := m.at
	length := m.short()
	if length > 65536 {
		m.stop(api.ErrLimit)
	}
	if length > uint64(len(m.b)-m.at) {
		m.stop(api.ErrShort)
	}
	if m.e != api.OK {
		m.at = begin
		return ""
	}
	m.at += int(length)
	return string(m.b[m.at-int(length) : m.at])
}

func (m *reading) value() (v api.Value) {
	v.Kind = m.one()
	if v.Kind == 1 {
		z := m.short()
		v.N = int64(z / 2)
		if z%2 == 1 {
			v.N = -v.N - 1
		}
	}
	if v.Kind == 2 {
		v.S = m.text()
	}
	if v.Kind > 2 {
		m.stop(api.ErrForm)
	}
	if m.e != api.OK {
		return api.Value{}
	}
	return v
}

func (m *reading) schema() (s []api.Column) {
	n := m.one()
	for i := 0; i < n && m.e == api.OK; i++ {
		kind := m.one()
		null := m.one()
		way := m.one()
		if null != 0 && null != 1 {
			m.stop(api.ErrForm)
		}
		s = append(s, api.Column{Kind: kind, Null: null == 1, Way: way - 1})
	}
	m.stop(schemaRefusal(s))
	if m.e != api.OK {
		return nil
	}
	return s
}

func (m *reading) rows(s []api.Column) (rows [][]api.Value) {
	n := m.short()
	if n > 65536 {
		m.stop(api.ErrLimit)
	}
	for i := 0; i < int(n) && m.e == api.OK; i++ {
		row := []api.Value{}
		for range s {
			row = append(row, m.value())
		}
		m.stop(rowRefusal(s, row))
		rows = append(rows, row)
	}
	if m.e != api.OK {
		return nil
	}
	return rows
}

// sameRows is whether both have the same rows, of which those that are nil and those
// without values are the same.
func sameRows(a, b [][]api.Value) bool {
	return slices.EqualFunc(a, b, func(x, y []api.Value) bool { return slices.Equal(x, y) })
}

// join is all parts, one behind the other, in new memory.
func join(parts ...[]byte) []byte {
	return bytes.Join(parts, nil)
}

// behind is a reader of the bytes ahead and b, which stands ahead of b.
func behind(ahead, b []byte) *num.Reader {
	r := num.NewReader(join(ahead, b))
	r.Take(len(ahead))
	return r
}

// wantPlace looks whether r has that error at that place and stands there, or, of
// OK, has none and stands there.
func wantPlace(t *testing.T, what string, r *num.Reader, e api.Errno, at int) {
	t.Helper()
	place := at
	if e == api.OK {
		place = 0
	}
	if ge, gat := r.Err(); ge != e || gat != place {
		t.Fatalf("%s: error %d at %d, not %d at %d", what, ge, gat, e, place)
	}
	if r.At() != at {
		t.Fatalf("%s: at %d, not %d", what, r.At(), at)
	}
}

// wantTake looks whether Take answers that and leaves the reader there.
func wantTake(t *testing.T, b []byte, want api.Value, e api.Errno, at int) {
	t.Helper()
	for _, ahead := range [][]byte{nil, {9, 9, 9}} {
		r := behind(ahead, b)
		if v := value.Take(r); v != want {
			t.Fatalf("%.40x: %.40v, not %.40v", b, v, want)
		}
		wantPlace(t, "a value", r, e, len(ahead)+at)
	}
}

func wantTakeSchema(t *testing.T, b []byte, want []api.Column, e api.Errno, at int) {
	t.Helper()
	for _, ahead := range [][]byte{nil, {9, 9, 9}} {
		r := behind(ahead, b)
		if s := value.TakeSchema(r); !slices.Equal(s, want) {
			t.Fatalf("%.40x: %v, not %v", b, s, want)
		}
		wantPlace(t, "a schema", r, e, len(ahead)+at)
	}
}

func wantTakeRows(t *testing.T, b []byte, s []api.Column, want [][]api.Value, e api.Errno, at int) {
	t.Helper()
	for _, ahead := range [][]byte{nil, {9, 9, 9}} {
		r := behind(ahead, b)
		if rows := value.TakeRows(r, s); !sameRows(rows, want) {
			t.Fatalf("%.40x of %v: %d rows, not %d: %.99v, not %.99v", b, s, len(rows), len(want), rows, want)
		}
		wantPlace(t, "rows", r, e, len(ahead)+at)
	}
}

// anyValue looks whether Take answers what the words of the document say; the other
// two likewise. What they answer is put again as it was.

func anyValue(t *testing.T, b []byte) {
	t.Helper()
	m := &reading{b: b}
	v := m.value()
	wantTake(t, b, v, m.e, m.at)
	if m.e == api.OK && !bytes.Equal(value.Put(nil, v), b[:m.at]) {
		t.Fatalf("%.40x: put again as %.40x", b, value.Put(nil, v))
	}
}

func anySchema(t *testing.T, b []byte) {
	t.Helper()
	m := &reading{b: b}
	s := m.schema()
	wantTakeSchema(t, b, s, m.e, m.at)
	if m.e == api.OK && !bytes.Equal(value.PutSchema(s), b[:m.at]) {
		t.Fatalf("%.40x: put again as %.40x", b, value.PutSchema(s))
	}
}

func anyRows(t *testing.T, b []byte, s []api.Column) {
	t.Helper()
	m := &reading{b: b}
	rows := m.rows(s)
	wantTakeRows(t, b, s, rows, m.e, m.at)
	if m.e == api.OK && !bytes.Equal(value.PutRows(nil, rows), b[:m.at]) {
		t.Fatalf("%.40x of %v: put again as %.40x", b, s, value.PutRows(nil, rows))
	}
}

// allBytes tells all texts of these bytes that have at most n of them.
func allBytes(from []byte, n int, tell func(b []byte)) {
	var grow func(b []byte)
	grow = func(b []byte) {
		tell(slices.Clone(b))
		if len(b) == n {
			return
		}
		for _, c := range from {
			grow(append(b[:len(b):len(b)], c))
		}
	}
	grow(nil)
}

// turned tells b cut at each place, with each byte turned into some others, and with
// more behind it.
func turned(b []byte, tell func(b []byte)) {
	for i := range b {
		tell(slices.Clone(b[:i]))
		for _, c := range []byte{0, 1, 2, 3, 4, 5, 6, 7, 64, 65, 127, 128, 129, 254, 255, b[i] + 1, b[i] - 1} {
			x := slices.Clone(b)
			x[i] = c
			tell(x)
		}
		tell(slices.Delete(slices.Clone(b), i, i+1))
		tell(slices.Insert(slices.Clone(b), i, b[i]))
	}
	tell(join(b, []byte{0}))
	tell(join(b, b))
}
