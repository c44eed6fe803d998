package zone_test

import (
	"fmt"
	"math"
	"slices"
	"strings"
	"testing"

	"estreat/api"
	"estreat/zone"
)

const (
	falsity = api.False
	unknown = api.Unknown
	truth   = api.True
)

var nothing = api.Value{}

func number(n int64) api.Value { return api.Value{Kind: api.KInt, N: n} }

func text(s string) api.Value { return api.Value{Kind: api.KText, S: s} }

// long is a text of so many bytes, of which first and last are unlike.
func long(n int) string {
	return "l" + strings.Repeat("o", n-2) + "g"
}

var beyond = long(api.MaxText + 1)

func tooLong() api.Value { return text(beyond) }

// Predicates by their operators.

func always() api.Pred { return api.Pred{} }

func of(op, col int, l ...api.Value) api.Pred { return api.Pred{Op: op, Col: col, Vals: l} }

func joined(op int, parts ...api.Pred) api.Pred { return api.Pred{Op: op, Of: parts} }

func not(p api.Pred) api.Pred { return joined(api.PNot, p) }

func and(parts ...api.Pred) api.Pred { return joined(api.PAnd, parts...) }

func or(parts ...api.Pred) api.Pred { return joined(api.POr, parts...) }

// holding is the operators that hold a value against one.
func holding() []int {
	return []int{api.PEq, api.PNe, api.PLt, api.PLe, api.PGt, api.PGe}
}

// naming is the operators that name a column.
func naming() []int {
	return append(holding(), api.PIn, api.PBetween, api.PNull)
}

// none is numbers that are no operators.
func none() []int {
	return []int{
		-1, -2, -3, -11, -12, -13, -243, -244, -254, -255, -256, -257, -1 << 31, -1<<32 + 1, -1 << 32, math.MinInt, math.MinInt + 1,
		13, 14, 15, 16, 127, 128, 255, 256, 257, 258, 265, 266, 268, 269, 1<<16 + 1, 1 << 31, 1 << 32, 1<<32 + 1, 1<<32 + 12, math.MaxInt - 1, math.MaxInt,
	}
}

// noKinds is numbers that are kinds of no column.
func noKinds() []int {
	return []int{api.KNull, -1, -2, 3, 4, 5, 127, 128, 255, 256, 257, 258, -254, -255, 1<<32 + 1, math.MinInt, math.MaxInt}
}

// farColumns is numbers that are no places in few columns.
func farColumns() []int {
	return []int{-1, -2, -3, -64, -256, -1 << 31, -1 << 32, math.MinInt, math.MinInt + 1, 64, 65, 256, 1 << 31, 1 << 32, 1<<32 + 1, math.MaxInt - 1, math.MaxInt}
}

// fits is values of the operator's number, all v.
func fits(op int, v api.Value) []api.Value {
	return slices.Repeat([]api.Value{v}, []int{api.PEq: 1, api.PNe: 1, api.PLt: 1, api.PLe: 1, api.PGt: 1, api.PGe: 1, api.PIn: 3, api.PBetween: 2, api.PNot: 0}[op])
}

// formed is a predicate of each operator that is formed as it should be, of the column 0.
func formed() []api.Pred {
	l := []api.Pred{always(), of(api.PIn, 0), of(api.PNull, 0), and(always()), or(always()), not(always()), and(of(api.PEq, 0, number(5)), not(of(api.PNull, 0)))}
	for _, op := range naming() {
		l = append(l, of(op, 0, fits(op, number(5))...))
	}
	return l
}

// Zones.

// span is the zone of values from one to the other, and so many nothings.
func span(nulls int, least, greatest api.Value) api.Zone {
	return api.Zone{Nulls: nulls, Some: true, Min: least, Max: greatest}
}

// only is the zone of so many nothings.
func only(nulls int) api.Zone { return api.Zone{Nulls: nulls} }

// set is so many truths.
func set(l ...int) [3]bool {
	var m [3]bool
	for _, v := range l {
		m[v] = true
	}
	return m
}

// read is the truths of a word of F, U and T.
func read(word string) [3]bool {
	return [3]bool{strings.Contains(word, "F"), strings.Contains(word, "U"), strings.Contains(word, "T")}
}

// sets is all sets of truths, the one of none first.
func sets() [][3]bool {
	return [][3]bool{read(""), read("F"), read("U"), read("T"), read("FU"), read("FT"), read("UT"), read("FUT")}
}

// chance is a number that looks like any other, the same at each call.
func chance(i int) uint64 {
	v := uint64(i+1) * 6364136223846793005
	v ^= v >> 29
	v *= 2862933555777941757
	return v ^ v>>32
}

// hat tells one number behind the other that look like any.
type hat int

// below is one from 0 to n - 1.
func (h *hat) below(n int) int {
	*h++
	return int(chance(int(*h)) >> 7 % uint64(n))
}

func (h *hat) value() api.Value {
	few := []api.Value{
		nothing, number(0), number(1), number(2), number(3), number(5), number(-1), number(math.MinInt64), number(math.MaxInt64),
		text(""), text("a"), text("ab"), text("b"), text("bb"), text("\xff"), text("1"),
	}
	return few[h.below(len(few))]
}

// odd is a value that may stand in no column.
func (h *hat) odd() api.Value {
	few := []api.Value{
		{N: 1}, {S: "a"}, {Kind: api.KInt, N: 1, S: "a"}, {Kind: api.KText, N: 1, S: "a"}, {Kind: 3}, {Kind: -1, N: 1}, {Kind: 257, N: 1}, {Kind: 258, S: "a"}, tooLong(),
	}
	return few[h.below(len(few))]
}

// pred is a predicate of at most so many nested, of at most so many columns; of wild
// ones one of some things in it isn't as it should be.
func (h *hat) pred(deep, columns int, wild bool) api.Pred {
	p := api.Pred{Op: h.below(api.PNot + 1)}
	if deep == 0 {
		p.Op = h.below(api.PAnd)
	}
	values, parts := 0, 0
	switch {
	case p.Op == api.PIn:
		values = h.below(4)
	case p.Op == api.PBetween:
		values = 2
	case p.Op >= api.PEq && p.Op <= api.PGe:
		values = 1
	case p.Op == api.PNot:
		parts = 1
	case p.Op >= api.PAnd:
		parts = 1 + h.below(3)
	}
	if p.Op >= api.PEq && p.Op <= api.PNull {
		p.Col = h.below(columns)
	}
	if wild && h.below(6) == 0 {
		switch h.below(4) {
		case 0:
			p.Op = []int{-1, 13, 256, 257, h.below(13)}[h.below(5)]
		case 1:
			p.Col = []int{-1, columns, columns + 1, math.MinInt, math.MaxInt, h.below(columns)}[h.below(6)]
		case 2:
			values = []int{0, 1, 2, 3, 256, 257}[h.below(6)]
		case 3:
			parts = min(h.below(4), 3*deep)
		}
	}
	for range values {
		v := h.value()
		if h.below(3) > 0 {
			v = []api.Value{number(int64(h.below(6))), text(strings.Repeat("b", h.below(3)))}[p.Col&1]
		}
		if wild && h.below(20) == 0 {
			v = h.odd()
		}
		p.Vals = append(p.Vals, v)
	}
	for range parts {
		p.Of = append(p.Of, h.pred(deep-1, columns, wild))
	}
	return p
}

// zone is any zone, most of them of values that there may be, of so many rows.
func (h *hat) zone(rows int) api.Zone {
	if h.below(8) == 0 {
		return api.Zone{Nulls: h.below(2*rows+2) - rows/2 - 1, Some: h.below(2) == 0, Min: h.value(), Max: h.value()}
	}
	kind := h.below(2)
	var l []api.Value
	for range h.below(rows + 1) {
		l = append(l, []api.Value{number(int64(h.below(6))), text(strings.Repeat("b", h.below(3)))}[kind])
	}
	for len(l) < rows {
		l = append(l, nothing)
	}
	return zoneOf(l)
}

func samePred(a, b api.Pred) bool {
	return a.Op == b.Op && a.Col == b.Col && slices.Equal(a.Vals, b.Vals) && slices.EqualFunc(a.Of, b.Of, samePred)
}

// ahead is whether a is ahead of b by the words of the document.
func ahead(a, b api.Value) bool {
	if a.Kind == 1 && b.Kind == 1 {
		return a.N < b.N
	}
	if a.Kind == 2 && b.Kind == 2 {
		return a.S < b.S
	}
	return a.Kind < b.Kind
}

func behind(a, b api.Value) bool { return ahead(b, a) }

func another(a, b api.Value) bool { return ahead(a, b) || ahead(b, a) }

// zoneOf is Of's answer by the words of the document.
func zoneOf(l []api.Value) api.Zone {
	var z api.Zone
	for i, v := range l {
		if v.Kind == 0 {
			z.Nulls++
			continue
		}
		z.Some = true
		isLeast, isGreatest := true, true
		for j, w := range l {
			if w.Kind == 0 {
				continue
			}
			if ahead(w, v) || j < i && !another(v, w) {
				isLeast = false
			}
			if behind(w, v) || j < i && !another(v, w) {
				isGreatest = false
			}
		}
		if isLeast {
			z.Min = v
		}
		if isGreatest {
			z.Max = v
		}
	}
	return z
}

// isAsItShould is whether p is formed as it should be and names a column that there
// is, by the words of the document.
func isAsItShould(p api.Pred, columns int) bool {
	isTrue, isHeld, isIn, isBetween, isNull := p.Op == 0, p.Op >= 1 && p.Op <= 6, p.Op == 7, p.Op == 8, p.Op == 9
	isJoined, isNot := p.Op == 10 || p.Op == 11, p.Op == 12
	namesOne := isHeld || isIn || isBetween || isNull
	if len(p.Vals) > 256 || len(p.Of) > 256 || !namesOne && p.Col != 0 || namesOne && (p.Col < 0 || p.Col >= columns) {
		return false
	}
	values := isHeld && len(p.Vals) == 1 || isIn || isBetween && len(p.Vals) == 2 || (isTrue || isNull || isJoined || isNot) && len(p.Vals) == 0
	parts := isJoined && len(p.Of) > 0 || isNot && len(p.Of) == 1 || (isTrue || namesOne) && len(p.Of) == 0
	return values && parts
}

// mayBe is May's answer by the words of the document.
func mayBe(p api.Pred, rows int, z []api.Zone) [3]bool {
	if rows < 1 {
		return read("")
	}
	if !isAsItShould(p, len(z)) {
		return read("FUT")
	}
	switch p.Op {
	case 0:
		return read("T")
	case 9:
		return [3]bool{api.True: z[p.Col].Nulls > 0, api.False: z[p.Col].Nulls < rows}
	case 10, 11, 12:
		return ofParts(p, rows, z)
	}
	var may [3]bool
	c := z[p.Col]
	may[api.Unknown] = c.Nulls > 0
	if c.Some {
		may[api.True], may[api.False] = ofTable(p.Op, p.Vals, c.Min, c.Max)
	}
	return may
}

// ofTable is the document's table, line by line.
func ofTable(op int, l []api.Value, least, greatest api.Value) (isTrue, isFalse bool) {
	var same, other bool
	if op < 7 {
		same = !behind(least, l[0]) && !ahead(greatest, l[0])
		other = another(least, l[0]) || another(greatest, l[0])
	}
	switch op {
	case 1:
		return same, other
	case 2:
		return other, same
	case 3:
		return ahead(least, l[0]), !ahead(greatest, l[0])
	case 4:
		return !behind(least, l[0]), behind(greatest, l[0])
	case 5:
		return behind(greatest, l[0]), !behind(least, l[0])
	case 6:
		return !ahead(greatest, l[0]), ahead(least, l[0])
	case 7:
		isFalse = true
		for _, v := range l {
			if !ahead(v, least) && !behind(v, greatest) {
				isTrue = true
			}
			if !another(least, greatest) && !another(least, v) {
				isFalse = false
			}
		}
		return isTrue, isFalse
	}
	a, b := l[0], l[1]
	return !behind(a, b) && !behind(a, greatest) && !ahead(b, least), ahead(least, a) || behind(greatest, b)
}

// ofParts tells what comes of each choice without going through them: a truth is the
// least one of a choice, if it may be of one part, and of each other one a truth may
// be that isn't below it. The greatest one is the least one, with False and True
// turned.
func ofParts(p api.Pred, rows int, z []api.Zone) [3]bool {
	var may [3]bool
	var parts [][3]bool
	for _, q := range p.Of {
		part := mayBe(q, rows, z)
		if p.Op == 11 {
			part[0], part[2] = part[2], part[0]
		}
		parts = append(parts, part)
	}
	for v := range 3 {
		one, each := false, true
		for _, part := range parts {
			one = one || part[v]
			each = each && slices.Contains(part[v:], true)
		}
		may[v] = one && each
	}
	if p.Op != 10 {
		may[0], may[2] = may[2], may[0]
	}
	return may
}

// isSound is Sound's answer by the words of the document.
func isSound(z api.Zone, rows, kind int) bool {
	if z.Nulls < 0 || z.Nulls > rows {
		return false
	}
	if z.Nulls == rows {
		return z == api.Zone{Nulls: rows}
	}
	isRight := func(v api.Value) bool {
		return v == number(v.N) && kind == 1 || v == text(v.S) && kind == 2 && len(v.S) <= 65536
	}
	return z.Some && isRight(z.Min) && isRight(z.Max) && !behind(z.Min, z.Max)
}

// shown is the beginning of what v is.
func shown(v any) string {
	s := fmt.Sprint(v)
	return s[:min(len(s), 300)]
}

func wantOf(t *testing.T, l []api.Value, want api.Zone) {
	t.Helper()
	if z := zone.Of(l); z != want {
		t.Fatalf("%s: %s, not %s", shown(l), shown(z), shown(want))
	}
	if z := zoneOf(l); z != want {
		t.Fatalf("%s: by the document %s, not %s", shown(l), shown(z), shown(want))
	}
}

// wantMay looks for Refutes, too.
func wantMay(t *testing.T, p api.Pred, rows int, z []api.Zone, want [3]bool) {
	t.Helper()
	if may := zone.May(p, rows, z); may != want {
		t.Fatalf("%s of %d rows of %s: %v, not %v", shown(p), rows, shown(z), may, want)
	}
	if may := mayBe(p, rows, z); may != want {
		t.Fatalf("%s of %d rows of %s: by the document %v, not %v", shown(p), rows, shown(z), may, want)
	}
	if zone.Refutes(p, rows, z) == want[truth] {
		t.Fatalf("%s of %d rows of %s: refuted is %v", shown(p), rows, shown(z), want[truth])
	}
}

func wantSound(t *testing.T, z api.Zone, rows, kind int, want bool) {
	t.Helper()
	if is := zone.Sound(z, rows, kind); is != want {
		t.Fatalf("%s of %d rows, kind %d: %v", shown(z), rows, kind, is)
	}
	if is := isSound(z, rows, kind); is != want {
		t.Fatalf("%s of %d rows, kind %d: by the document %v", shown(z), rows, kind, is)
	}
}
