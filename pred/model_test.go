package pred_test

import (
	"bytes"
	"encoding/binary"
	"fmt"
	"math"
	"slices"
	"strings"
	"testing"

	"estreat/api"
	"estreat/num"
	"estreat/pred"
)

var nothing = api.Value{}

func number(n int64) api.Value { return api.Value{Kind: api.KInt, N: n} }

func text(s string) api.Value { return api.Value{Kind: api.KText, S: s} }

// long is a text of so many bytes, of which first and last are unlike.
func long(n int) string {
	return "l" + strings.Repeat("o", n-2) + "g"
}

var beyond = long(api.MaxText + 1)

func tooLong() api.Value { return text(beyond) }

// Predicates by their operators.

func always() api.Pred { return api.Pred{} }

func of(op, col int, l ...api.Value) api.Pred { return api.Pred{Op: op, Col: col, Vals: l} }

func joined(op int, parts ...api.Pred) api.Pred { return api.Pred{Op: op, Of: parts} }

func not(p api.Pred) api.Pred { return joined(api.PNot, p) }

func and(parts ...api.Pred) api.Pred { return joined(api.PAnd, parts...) }

func or(parts ...api.Pred) api.Pred { return joined(api.POr, parts...) }

// isNull is true of a row of nothing at 0, isSome false, and below unknown.

func isNull() api.Pred { return of(api.PNull, 0) }

func isSome() api.Pred { return not(isNull()) }

func below() api.Pred { return of(api.PLt, 0, number(5)) }

// nested is p in so many others.
func nested(p api.Pred, n int) api.Pred {
	for i := range n {
		p = joined([]int{api.PNot, api.PAnd, api.POr}[i%3], p)
	}
	return p
}

// columns are one of numbers, and one of texts; each with a Null behind it may have
// nothing.
func columns() []api.Column {
	return []api.Column{
		{Kind: api.KInt, Way: api.Auto}, {Kind: api.KText, Way: api.Auto},
		{Kind: api.KInt, Null: true, Way: api.Fore}, {Kind: api.KText, Null: true, Way: api.Texts},
	}
}

const (
	ints = iota
	texts
	intsNull
	textsNull
)

// holding is the operators that hold a value against one.
func holding() []int {
	return []int{api.PEq, api.PNe, api.PLt, api.PLe, api.PGt, api.PGe}
}

// naming is the operators that name a column.
func naming() []int {
	return append(holding(), api.PIn, api.PBetween, api.PNull)
}

// none is numbers that are no operators.
func none() []int {
	return []int{
		-1, -2, -3, -11, -12, -13, -243, -244, -254, -255, -256, -257, -1 << 31, -1<<32 + 1, -1 << 32, math.MinInt, math.MinInt + 1,
		13, 14, 15, 16, 127, 128, 255, 256, 257, 258, 265, 266, 268, 269, 1<<16 + 1, 1 << 31, 1 << 32, 1<<32 + 1, 1<<32 + 12, math.MaxInt - 1, math.MaxInt,
	}
}

// noKinds is numbers that are kinds of no column.
func noKinds() []int {
	return []int{api.KNull, -1, -2, 3, 4, 5, 127, 128, 255, 256, 257, 258, -254, -255, 1<<32 + 1, math.MinInt, math.MaxInt}
}

// farColumns is numbers that are no places in few columns.
func farColumns() []int {
	return []int{-1, -2, -3, -64, -256, -1 << 31, -1 << 32, math.MinInt, math.MinInt + 1, 64, 65, 256, 1 << 31, 1 << 32, 1<<32 + 1, math.MaxInt - 1, math.MaxInt}
}

// chance is a number that looks like any other, the same at each call.
func chance(i int) uint64 {
	v := uint64(i+1) * 6364136223846793005
	v ^= v >> 29
	v *= 2862933555777941757
	return v ^ v>>32
}

// hat tells one number behind the other that look like any.
type hat int

// below is one from 0 to n - 1.
func (h *hat) below(n int) int {
	*h++
	return int(chance(int(*h)) >> 7 % uint64(n))
}

func (h *hat) value() api.Value {
	few := []api.Value{
		nothing, number(0), number(1), number(2), number(5), number(-1), number(math.MinInt64), number(math.MaxInt64),
		text(""), text("a"), text("ab"), text("b"), text("\xff"), text("1"),
	}
	return few[h.below(len(few))]
}

// odd is a value that may stand in no column.
func (h *hat) odd() api.Value {
	few := []api.Value{
		{N: 1}, {S: "a"}, {Kind: api.KInt, N: 1, S: "a"}, {Kind: api.KText, N: 1, S: "a"}, {Kind: 3}, {Kind: -1, N: 1}, {Kind: 257, N: 1}, {Kind: 258, S: "a"}, tooLong(),
	}
	return few[h.below(len(few))]
}

// pred is a predicate of at most so many nested; of wild ones one of some things in
// it isn't right.
func (h *hat) pred(deep int, wild bool) api.Pred {
	p := api.Pred{Op: h.below(api.PNot + 1)}
	if deep == 0 {
		p.Op = h.below(api.PAnd)
	}
	values, parts := 0, 0
	switch {
	case p.Op == api.PIn:
		values = h.below(4)
	case p.Op == api.PBetween:
		values = 2
	case p.Op >= api.PEq && p.Op <= api.PGe:
		values = 1
	case p.Op == api.PNot:
		parts = 1
	case p.Op >= api.PAnd:
		parts = 1 + h.below(3)
	}
	if p.Op >= api.PEq && p.Op <= api.PNull {
		p.Col = h.below(4)
	}
	isOdd := wild && h.below(6) == 0
	if isOdd {
		switch h.below(5) {
		case 0:
			p.Op = []int{-1, 13, 256, 257, h.below(13)}[h.below(5)]
		case 1:
			p.Col = []int{-1, 4, 5, math.MinInt, math.MaxInt, h.below(4)}[h.below(6)]
		case 2:
			values = []int{0, 1, 2, 3, 256, 257}[h.below(6)]
		case 3:
			parts = min(h.below(4), 3*deep)
		}
	}
	for range values {
		p.Vals = append(p.Vals, h.value())
		if isOdd && h.below(4) == 0 {
			p.Vals[len(p.Vals)-1] = h.odd()
		}
		if !wild && p.Vals[len(p.Vals)-1].Kind != columns()[p.Col].Kind {
			p.Vals[len(p.Vals)-1] = []api.Value{number(int64(h.below(5))), text(strings.Repeat("b", h.below(3)))}[columns()[p.Col].Kind-1]
		}
	}
	for range parts {
		p.Of = append(p.Of, h.pred(deep-1, wild))
	}
	return p
}

func (h *hat) row() []api.Value {
	row := []api.Value{number(int64(h.below(5))), text(strings.Repeat("b", h.below(3))), number(int64(h.below(5))), text(strings.Repeat("b", h.below(3)))}
	for i := intsNull; i <= textsNull; i++ {
		if h.below(2) == 0 {
			row[i] = nothing
		}
	}
	return row
}

func samePred(a, b api.Pred) bool {
	return a.Op == b.Op && a.Col == b.Col && slices.Equal(a.Vals, b.Vals) && slices.EqualFunc(a.Of, b.Of, samePred)
}

// refusal is Check's answer by the words of the document: for each predicate all that
// is wrong with it, of which what is named first is told.
func refusal(s []api.Column, p api.Pred, others int) api.Errno {
	isTrue, isHeld, isIn, isBetween, isNull := p.Op == 0, p.Op >= 1 && p.Op <= 6, p.Op == 7, p.Op == 8, p.Op == 9
	isJoined, isNot := p.Op == 10 || p.Op == 11, p.Op == 12
	namesOne := isHeld || isIn || isBetween || isNull
	isThere := p.Col >= 0 && p.Col < len(s)
	values := isHeld && len(p.Vals) == 1 || isIn || isBetween && len(p.Vals) == 2 || (isTrue || isNull || isJoined || isNot) && len(p.Vals) == 0
	parts := isJoined && len(p.Of) > 0 || isNot && len(p.Of) == 1 || (isTrue || namesOne) && len(p.Of) == 0
	ofKind, short := true, true
	for _, v := range p.Vals {
		isNumber := v == api.Value{Kind: 1, N: v.N}
		isText := v == api.Value{Kind: 2, S: v.S}
		if isThere && !(isNumber && s[p.Col].Kind == 1 || isText && s[p.Col].Kind == 2) {
			ofKind = false
		}
		short = short && len(v.S) <= 65536
	}
	for _, x := range []struct {
		isWrong bool
		e       api.Errno
	}{
		{others >= 32, api.ErrDeep}, {len(p.Vals) > 256 || len(p.Of) > 256, api.ErrLimit},
		{!values || !parts || !namesOne && p.Col != 0, api.ErrForm}, {namesOne && !isThere, api.ErrNone}, {!ofKind && namesOne, api.ErrKind}, {!short, api.ErrLimit},
	} {
		if x.isWrong {
			return x.e
		}
	}
	for _, q := range p.Of {
		if e := refusal(s, q, others+1); e != api.OK {
			return e
		}
	}
	return api.OK
}

// ahead is whether a is ahead of b by the words of the document.
func ahead(a, b api.Value) bool {
	if a.Kind == 1 && b.Kind == 1 {
		return a.N < b.N
	}
	if a.Kind == 2 && b.Kind == 2 {
		return a.S < b.S
	}
	return a.Kind < b.Kind
}

// truthOf is Eval's answer by the words of the document.
func truthOf(p api.Pred, row []api.Value) int {
	truth := map[bool]int{false: api.False, true: api.True}
	var v api.Value
	if p.Op >= 1 && p.Op <= 9 {
		if p.Col < 0 || p.Col >= len(row) {
			return api.Unknown
		}
		v = row[p.Col]
	}
	if p.Op == 0 {
		return api.True
	}
	if p.Op == 9 {
		return truth[v.Kind == 0]
	}
	if p.Op == 12 && len(p.Of) > 0 {
		return []int{api.False: api.True, api.Unknown: api.Unknown, api.True: api.False}[truthOf(p.Of[0], row)]
	}
	if (p.Op == 10 || p.Op == 11) && len(p.Of) > 0 {
		has := map[int]bool{}
		for _, q := range p.Of {
			has[truthOf(q, row)] = true
		}
		ends := []int{api.False, api.True}
		if p.Op == 11 {
			slices.Reverse(ends)
		}
		if has[ends[0]] {
			return ends[0]
		}
		if has[api.Unknown] {
			return api.Unknown
		}
		return ends[1]
	}
	told := []int{1: 1, 2: 1, 3: 1, 4: 1, 5: 1, 6: 1, 7: len(p.Vals), 8: 2}
	if p.Op < 1 || p.Op > 8 || len(p.Vals) != told[p.Op] || len(p.Vals) > 256 || len(p.Of) > 0 || v.Kind == 0 {
		return api.Unknown
	}
	isOne := slices.ContainsFunc(p.Vals, func(w api.Value) bool { return !ahead(v, w) && !ahead(w, v) })
	switch p.Op {
	case 1, 7:
		return truth[isOne]
	case 2:
		return truth[!isOne]
	case 3:
		return truth[ahead(v, p.Vals[0])]
	case 4:
		return truth[ahead(v, p.Vals[0]) || isOne]
	case 5:
		return truth[ahead(p.Vals[0], v)]
	case 6:
		return truth[ahead(p.Vals[0], v) || isOne]
	}
	return truth[!ahead(v, p.Vals[0]) && !ahead(p.Vals[1], v)]
}

// formOf is a predicate's form by the words of the document.
func formOf(p api.Pred) []byte {
	b := []byte{byte(p.Op & 255)}
	b = binary.AppendUvarint(b, uint64(p.Col))
	b = binary.AppendUvarint(b, uint64(len(p.Vals)))
	for _, v := range p.Vals {
		b = append(b, byte(v.Kind&255))
		if v.Kind == 1 {
			b = binary.AppendVarint(b, v.N)
		}
		if v.Kind == 2 {
			b = append(binary.AppendUvarint(b, uint64(len(v.S))), v.S...)
		}
	}
	b = binary.AppendUvarint(b, uint64(len(p.Of)))
	for _, q := range p.Of {
		b = append(b, formOf(q)...)
	}
	return b
}

// reading takes from bytes by the words of the document: behind its first error it
// takes nothing any more, and its place is that error's.
type reading struct {
	b  []byte
	at int
	e  api.Errno
}

func (m *reading) stop(e api.Errno) {
	if m.e == api.OK {
		m.e = e
	}
}

func (m *reading) one() int {
	if m.e == api.OK && m.at == len(m.b) {
		m.stop(api.ErrShort)
	}
	if m.e != api.OK {
		return 0
	}
	m.at++
	return int(m.b[m.at-1])
}

// short is a short number; it doesn't go on where it can't be one.
func (m *reading) short() (v uint64) {
	begin := m.at
	for i := 0; m.e == api.OK; i++ {
		c := m.one()
		if m.e == api.OK && (i > 0 && c == 0 || i == 9 && c&127 > 1 || i > 9) {
			m.stop(api.ErrForm)
		}
		if m.e == api.OK && c < 128 {
			return v + uint64(c)<<(7*i)
		}
		v += uint64(c&127) << (7 * i)
	}
	m.at = begin
	return 0
}

// text is a blob of at most MaxText bytes.
func (m *reading) text() string {
	begin := m.at
	length := m.short()
	if length > 65536 {
		m.stop(api.ErrLimit)
	}
	if length > uint64(len(m.b)-m.at) {
		m.stop(api.ErrShort)
	}
	if m.e != api.OK {
		m.at = begin
		return ""
	}
	m.at += int(length)
	return string(m.b[m.at-int(length) : m.at])
}

func (m *reading) value() (v api.Value) {
	v.Kind = m.one()
	if v.Kind == 1 {
		z := m.short()
		v.N = int64(z / 2)
		if z%2 == 1 {
			v.N = -v.N - 1
		}
	}
	if v.Kind == 2 {
		v.S = m.text()
	}
	if v.Kind > 2 {
		m.stop(api.ErrForm)
	}
	return v
}

func (m *reading) howMany() int {
	n := m.short()
	if n > 256 {
		m.stop(api.ErrLimit)
	}
	if m.e != api.OK {
		return 0
	}
	return int(n)
}

func (m *reading) pred(others int) (p api.Pred) {
	if others == 32 {
		m.stop(api.ErrDeep)
	}
	p.Op = m.one()
	if p.Op > 12 {
		m.stop(api.ErrForm)
	}
	p.Col = int(m.short())
	for n := m.howMany(); n > 0 && m.e == api.OK; n-- {
		p.Vals = append(p.Vals, m.value())
	}
	for n := m.howMany(); n > 0 && m.e == api.OK; n-- {
		p.Of = append(p.Of, m.pred(others+1))
	}
	if m.e != api.OK {
		return api.Pred{}
	}
	return p
}

// columnsOf is Cols' answer by the words of the document.
func columnsOf(p api.Pred) []int {
	var l []int
	if p.Op >= 1 && p.Op <= 9 {
		l = append(l, p.Col)
	}
	for _, q := range p.Of {
		l = append(l, columnsOf(q)...)
	}
	slices.Sort(l)
	return slices.Compact(l)
}

// shown is the beginning of what v is.
func shown(v any) string {
	s := fmt.Sprint(v)
	return s[:min(len(s), 200)]
}

// join is all parts, one behind the other, in new memory.
func join(parts ...[]byte) []byte {
	return bytes.Join(parts, nil)
}

func wantCheck(t *testing.T, s []api.Column, p api.Pred, want api.Errno) {
	t.Helper()
	if e := pred.Check(s, p); e != want {
		t.Fatalf("%d columns, %s: %d, not %d", len(s), shown(p), e, want)
	}
	if e := refusal(s, p, 0); e != want {
		t.Fatalf("%d columns, %s: by the document %d, not %d", len(s), shown(p), e, want)
	}
}

func wantEval(t *testing.T, p api.Pred, row []api.Value, want int) {
	t.Helper()
	if v := pred.Eval(p, row); v != want {
		t.Fatalf("%s of %s: %d, not %d", shown(p), shown(row), v, want)
	}
	if v := truthOf(p, row); v != want {
		t.Fatalf("%s of %s: by the document %d, not %d", shown(p), shown(row), v, want)
	}
}

func wantPut(t *testing.T, p api.Pred, want []byte) {
	t.Helper()
	if b := pred.Put(p); !bytes.Equal(b, want) {
		t.Fatalf("%s: %.99x, not %.99x", shown(p), b, want)
	}
	if b := formOf(p); !bytes.Equal(b, want) {
		t.Fatalf("%s: by the document %.99x, not %.99x", shown(p), b, want)
	}
}

// wantTake looks whether Take answers that and leaves the reader there.
func wantTake(t *testing.T, b []byte, want api.Pred, e api.Errno, at int) {
	t.Helper()
	for _, ahead := range [][]byte{nil, {9, 9, 9}} {
		r := num.NewReader(join(ahead, b))
		r.Take(len(ahead))
		if p := pred.Take(r); !samePred(p, want) {
			t.Fatalf("%.99x: %s, not %s", b, shown(p), shown(want))
		}
		wantPlace(t, b, r, e, len(ahead)+at)
	}
}

// wantPlace looks whether r has that error at that place and stands there, or, of OK,
// has none and stands there.
func wantPlace(t *testing.T, b []byte, r *num.Reader, e api.Errno, at int) {
	t.Helper()
	place := at
	if e == api.OK {
		place = 0
	}
	if ge, gat := r.Err(); ge != e || gat != place {
		t.Fatalf("%.99x: error %d at %d, not %d at %d", b, ge, gat, e, place)
	}
	if r.At() != at {
		t.Fatalf("%.99x: at %d, not %d", b, r.At(), at)
	}
}

// wantRefused is wantTake of an error.
func wantRefused(t *testing.T, b []byte, e api.Errno, at int) {
	t.Helper()
	wantTake(t, b, api.Pred{}, e, at)
}

// wantAny looks whether Take answers what the words of the document say; what it
// answers is put again as it was.
func wantAny(t *testing.T, b []byte) {
	t.Helper()
	m := &reading{b: b}
	p := m.pred(0)
	wantTake(t, b, p, m.e, m.at)
	if m.e == api.OK && !bytes.Equal(pred.Put(p), b[:m.at]) {
		t.Fatalf("%.99x: put again as %.99x", b, pred.Put(p))
	}
}

func wantCols(t *testing.T, p api.Pred, want ...int) {
	t.Helper()
	if l := pred.Cols(p); !slices.Equal(l, want) {
		t.Fatalf("%s: %v, not %v", shown(p), l, want)
	}
	if l := columnsOf(p); !slices.Equal(l, want) {
		t.Fatalf("%s: by the document %v, not %v", shown(p), l, want)
	}
}

func wantCopy(t *testing.T, p api.Pred) {
	t.Helper()
	if q := pred.Copy(p); !samePred(p, q) {
		t.Fatalf("%s, not %s", shown(q), shown(p))
	}
}
