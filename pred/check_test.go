package pred_test

import (
	"math"
	"slices"
	"testing"

	"estreat/api"
)

// The document's example.

func TestExample(t *testing.T) {
	wantEval(t, of(api.PLt, 0, number(5)), []api.Value{nothing}, api.Unknown)
}

// right is predicates of each operator that are right for columns, and some of them
// in others.
func right() []api.Pred {
	l := []api.Pred{always(), of(api.PIn, ints), of(api.PIn, textsNull), of(api.PNull, ints), of(api.PNull, texts), of(api.PNull, intsNull), of(api.PNull, textsNull)}
	for _, op := range holding() {
		l = append(l, of(op, ints, number(5)), of(op, texts, text("a")), of(op, intsNull, number(math.MinInt64)), of(op, textsNull, text("")))
	}
	for _, c := range []int{texts, textsNull} {
		l = append(l, of(api.PIn, c, text("")), of(api.PIn, c, text("b"), text("a"), text("b")), of(api.PBetween, c, text("a"), text("b")), of(api.PBetween, c, text("b"), text("a")))
	}
	for _, c := range []int{ints, intsNull} {
		l = append(l, of(api.PIn, c, number(0)), of(api.PIn, c, number(7), number(5), number(7)), of(api.PBetween, c, number(-1), number(1)), of(api.PBetween, c, number(5), number(5)))
	}
	for _, p := range slices.Clone(l) {
		l = append(l, not(p), and(p), or(p), and(p, always()), or(always(), p, p), not(not(p)), and(or(p), not(or(p, p))))
	}
	return l
}

// P16.1: Check

func TestCheckOfRightOnes(t *testing.T) {
	for _, p := range right() {
		wantCheck(t, columns(), p, api.OK)
	}
	wantCheck(t, columns(), and(right()...), api.ErrLimit)
	wantCheck(t, columns(), and(right()[:256]...), api.OK)
	wide := slices.Repeat(columns(), 16)
	for c := range wide {
		v := []api.Value{number(5), text("a")}[c%2]
		wantCheck(t, wide, of(api.PNull, c), api.OK)
		wantCheck(t, wide, of(api.PNe, c, v), api.OK)
		wantCheck(t, wide[:c+1], of(api.PBetween, c, v, v), api.OK)
		wantCheck(t, wide[:c], of(api.PBetween, c, v, v), api.ErrNone)
	}
}

// isIn looks whether p, whose parts have no parts, is refused so by itself, and as
// each part of others that are right.
func isIn(t *testing.T, p api.Pred, want api.Errno) {
	t.Helper()
	s := columns()
	wantCheck(t, s, p, want)
	wantCheck(t, s, not(p), want)
	wantCheck(t, s, and(p), want)
	wantCheck(t, s, or(always(), p), want)
	wantCheck(t, s, and(p, always(), always()), want)
	wantCheck(t, s, or(always(), not(always()), p), want)
	wantCheck(t, s, not(and(always(), or(p, always()))), want)
	wantCheck(t, s, and(append(slices.Repeat([]api.Pred{always()}, 255), p)...), want)
	wantCheck(t, s, nested(p, 30), want)
}

// Each operator has as many values as it may have, and no others.
func TestCheckOfHowManyValues(t *testing.T) {
	may := map[int][]int{api.PIn: {0, 1, 2, 3, 4, 255, 256}, api.PBetween: {2}}
	for _, op := range holding() {
		may[op] = []int{1}
	}
	for op := range api.PNot + 1 {
		for _, n := range []int{0, 1, 2, 3, 4, 255, 256, 257, 258, 512, 70000} {
			p := of(op, 0, slices.Repeat([]api.Value{number(5)}, n)...)
			if op >= api.PAnd {
				p.Of = []api.Pred{always()}
			}
			want := api.ErrForm
			switch {
			case n > 256:
				want = api.ErrLimit
			case slices.Contains(may[op], n), n == 0 && (op == api.PTrue || op >= api.PNull):
				want = api.OK
			}
			isIn(t, p, want)
		}
	}
}

func TestCheckOfHowManyParts(t *testing.T) {
	for op := range api.PNot + 1 {
		for _, n := range []int{0, 1, 2, 3, 4, 255, 256, 257, 258, 512, 70000} {
			p := joined(op, slices.Repeat([]api.Pred{always()}, n)...)
			p.Vals = slices.Repeat([]api.Value{number(5)}, []int{api.PEq: 1, api.PNe: 1, api.PLt: 1, api.PLe: 1, api.PGt: 1, api.PGe: 1, api.PIn: 3, api.PBetween: 2, api.PNot: 0}[op])
			want := api.ErrForm
			switch {
			case n > 256:
				want = api.ErrLimit
			case op < api.PAnd && n == 0, op == api.PNot && n == 1, (op == api.PAnd || op == api.POr) && n > 0:
				want = api.OK
			}
			isIn(t, p, want)
		}
	}
}

// Lists that are without elements but not nil are none.
func TestCheckOfEmptyLists(t *testing.T) {
	values, parts := []api.Value{}, []api.Pred{}
	isIn(t, api.Pred{Vals: values, Of: parts}, api.OK)
	isIn(t, api.Pred{Op: api.PNull, Vals: values, Of: parts}, api.OK)
	isIn(t, api.Pred{Op: api.PIn, Vals: values, Of: parts}, api.OK)
	isIn(t, api.Pred{Op: api.PEq, Vals: []api.Value{number(1)}, Of: parts}, api.OK)
	isIn(t, api.Pred{Op: api.PNot, Vals: values, Of: []api.Pred{always()}}, api.OK)
	isIn(t, api.Pred{Op: api.PAnd, Vals: values, Of: parts}, api.ErrForm)
	isIn(t, api.Pred{Op: api.PEq, Vals: values}, api.ErrForm)
	// What lies behind a list's length doesn't count.
	isIn(t, api.Pred{Op: api.PEq, Vals: []api.Value{number(1), text("a")}[:1], Of: []api.Pred{always()}[:0]}, api.OK)
	isIn(t, api.Pred{Op: api.PAnd, Of: []api.Pred{always(), of(99, 0)}[:1]}, api.OK)
}

func TestCheckOfAColumnWhereNoneIsNamed(t *testing.T) {
	for _, col := range append(farColumns(), 1, 2, 3, 4) {
		isIn(t, api.Pred{Col: col}, api.ErrForm)
		for _, op := range []int{api.PAnd, api.POr, api.PNot} {
			isIn(t, api.Pred{Op: op, Col: col, Of: []api.Pred{always()}}, api.ErrForm)
		}
	}
}

func TestCheckOfNoOperator(t *testing.T) {
	for _, op := range none() {
		isIn(t, of(op, 0), api.ErrForm)
		isIn(t, of(op, 0, number(5)), api.ErrForm)
		isIn(t, of(op, 0, number(5), number(6)), api.ErrForm)
		isIn(t, joined(op, always()), api.ErrForm)
		isIn(t, joined(op, always(), always()), api.ErrForm)
		isIn(t, of(op, 99), api.ErrForm)
		isIn(t, of(op, 0, slices.Repeat([]api.Value{number(5)}, 256)...), api.ErrForm)
		isIn(t, of(op, 0, slices.Repeat([]api.Value{number(5)}, 257)...), api.ErrLimit)
		isIn(t, joined(op, slices.Repeat([]api.Pred{always()}, 257)...), api.ErrLimit)
	}
}

// fits is values of the operator's number, all v.
func fits(op int, v api.Value) []api.Value {
	return slices.Repeat([]api.Value{v}, []int{1, 1, 1, 1, 1, 1, 1, 3, 2, 0}[op])
}

func TestCheckOfNoColumn(t *testing.T) {
	for _, op := range naming() {
		for _, col := range append(farColumns(), 4, 5) {
			isIn(t, of(op, col, fits(op, number(5))...), api.ErrNone)
			// There is no kind that its values could be of.
			isIn(t, of(op, col, fits(op, nothing)...), api.ErrNone)
			isIn(t, of(op, col, fits(op, tooLong())...), api.ErrNone)
		}
		for n := range 3 {
			s := slices.Repeat([]api.Column{{Kind: api.KInt}}, n)
			for col := -2; col < 5; col++ {
				want := api.ErrNone
				if col >= 0 && col < n {
					want = api.OK
				}
				wantCheck(t, s, of(op, col, fits(op, number(5))...), want)
			}
		}
		wantCheck(t, nil, of(op, 0, fits(op, number(5))...), api.ErrNone)
		wantCheck(t, columns()[:0], of(op, 0, fits(op, number(5))...), api.ErrNone)
		wantCheck(t, columns()[:1], of(op, 1, fits(op, text("a"))...), api.ErrNone)
	}
	wantCheck(t, nil, of(api.PIn, 0), api.ErrNone)
	wantCheck(t, nil, and(always(), not(always())), api.OK)
}

// wrongFor is values that aren't of the column's kind, none of them too long.
func wrongFor(kind int) []api.Value {
	l := []api.Value{
		nothing, {N: 1}, {S: "a"}, {N: 1, S: "a"},
		{Kind: api.KInt, S: "a"}, {Kind: api.KInt, N: 5, S: "\x00"}, {Kind: api.KText, N: 1}, {Kind: api.KText, N: math.MinInt64, S: "a"}, {Kind: api.KText, N: 1 << 32, S: "a"},
	}
	for _, k := range noKinds() {
		l = append(l, api.Value{Kind: k}, api.Value{Kind: k, N: 5}, api.Value{Kind: k, S: "a"})
	}
	if kind != api.KInt {
		l = append(l, number(0), number(5), number(math.MaxInt64))
	}
	if kind != api.KText {
		l = append(l, text(""), text("a"), text(long(api.MaxText)))
	}
	return l
}

// oneOf looks whether a predicate of each operator whose values are all good but for
// one, v, is refused so.
func oneOf(t *testing.T, col int, good, v api.Value, want api.Errno) {
	t.Helper()
	for _, op := range holding() {
		isIn(t, of(op, col, v), want)
	}
	isIn(t, of(api.PBetween, col, v, good), want)
	isIn(t, of(api.PBetween, col, good, v), want)
	isIn(t, of(api.PBetween, col, v, v), want)
	isIn(t, of(api.PIn, col, v), want)
	isIn(t, of(api.PIn, col, v, good, good), want)
	isIn(t, of(api.PIn, col, good, v, good), want)
	isIn(t, of(api.PIn, col, append(slices.Repeat([]api.Value{good}, 255), v)...), want)
}

func TestCheckOfValuesOfAnotherKind(t *testing.T) {
	for col, c := range columns() {
		good := []api.Value{number(7), text("b")}[col%2]
		for _, v := range wrongFor(c.Kind) {
			oneOf(t, col, good, v, api.ErrKind)
		}
	}
}

// A kind that is neither a number's nor a text's is none, also where the column has it.
func TestCheckOfColumnsOfNoKind(t *testing.T) {
	for _, kind := range noKinds() {
		for _, null := range []bool{false, true} {
			s := append(columns(), api.Column{Kind: kind, Null: null, Way: api.Auto})
			for _, v := range append(wrongFor(kind), api.Value{Kind: kind}, api.Value{Kind: kind, N: 7}, api.Value{Kind: kind, S: "a"}) {
				for _, op := range holding() {
					wantCheck(t, s, of(op, 4, v), api.ErrKind)
				}
				wantCheck(t, s, of(api.PIn, 4, v), api.ErrKind)
				wantCheck(t, s, not(of(api.PBetween, 4, v, v)), api.ErrKind)
			}
			wantCheck(t, s, of(api.PIn, 4), api.OK)
			wantCheck(t, s, of(api.PNull, 4), api.OK)
		}
	}
	// A schema's ways don't count, nor how many columns it has.
	wantCheck(t, []api.Column{{Kind: api.KInt, Way: 99}}, of(api.PEq, 0, number(1)), api.OK)
	wantCheck(t, slices.Repeat([]api.Column{{Kind: api.KText}}, 1000), of(api.PEq, 999, text("a")), api.OK)
}

func TestCheckOfLongTexts(t *testing.T) {
	for _, col := range []int{texts, textsNull} {
		oneOf(t, col, text("a"), text(long(api.MaxText-1)), api.OK)
		oneOf(t, col, text("a"), text(long(api.MaxText)), api.OK)
		oneOf(t, col, text("a"), tooLong(), api.ErrLimit)
		oneOf(t, col, text("a"), text(long(2*api.MaxText)), api.ErrLimit)
	}
	for _, col := range []int{ints, intsNull} {
		oneOf(t, col, number(1), tooLong(), api.ErrKind)
		oneOf(t, col, number(1), api.Value{Kind: api.KInt, S: tooLong().S}, api.ErrKind)
	}
	oneOf(t, texts, text("a"), api.Value{Kind: api.KText, N: 1, S: tooLong().S}, api.ErrKind)
	oneOf(t, texts, text("a"), api.Value{Kind: 3, S: tooLong().S}, api.ErrKind)
	oneOf(t, texts, text("a"), api.Value{S: tooLong().S}, api.ErrKind)
}

func TestCheckOfHowDeep(t *testing.T) {
	s := columns()
	for n := range 40 {
		want := api.OK
		if n > 31 {
			want = api.ErrDeep
		}
		for _, p := range []api.Pred{always(), of(api.PEq, texts, text("a")), of(api.PNull, ints)} {
			wantCheck(t, s, nested(p, n), want)
			for _, op := range []int{api.PAnd, api.POr, api.PNot} {
				q := p
				for range n {
					q = joined(op, q)
				}
				wantCheck(t, s, q, want)
			}
			// It is any part that counts.
			q := p
			for range n {
				q = and(always(), q, always())
			}
			wantCheck(t, s, q, want)
		}
	}
	wantCheck(t, s, nested(always(), 1000), api.ErrDeep)
}

// wrong is a predicate for each thing that may be wrong, with what is told of it.
func wrong() []struct {
	p api.Pred
	e api.Errno
} {
	many := slices.Repeat([]api.Value{number(1)}, 257)
	return []struct {
		p api.Pred
		e api.Errno
	}{
		{of(-1, 0), api.ErrForm}, {of(13, 0), api.ErrForm}, {of(api.PEq, 0), api.ErrForm}, {of(api.PTrue, 1), api.ErrForm}, {joined(api.PNot), api.ErrForm},
		{of(api.PIn, 0, many...), api.ErrLimit}, {of(api.PTrue, 0, many...), api.ErrLimit}, {joined(api.POr, make([]api.Pred, 257)...), api.ErrLimit},
		{of(api.PNull, 4), api.ErrNone}, {of(api.PEq, -1, number(5)), api.ErrNone}, {of(api.PLt, texts, number(5)), api.ErrKind}, {of(api.PIn, texts, nothing), api.ErrKind},
		{of(api.PGe, texts, tooLong()), api.ErrLimit},
	}
}

// Of a predicate that is nested in 32 others that is told, ahead of all else that is
// wrong with it.
func TestCheckTellsHowDeepFirst(t *testing.T) {
	for _, x := range wrong() {
		wantCheck(t, columns(), nested(x.p, 31), x.e)
		wantCheck(t, columns(), nested(x.p, 32), api.ErrDeep)
		wantCheck(t, columns(), nested(x.p, 33), api.ErrDeep)
		// What is ahead of it is told ahead of it.
		wantCheck(t, columns(), and(x.p, nested(always(), 32)), x.e)
		wantCheck(t, columns(), and(nested(always(), 31), x.p), api.ErrDeep)
		wantCheck(t, columns(), and(nested(always(), 30), x.p), x.e)
	}
}

// Of several faults of one predicate the one that is named first is told.
func TestCheckOrderOfErrors(t *testing.T) {
	many := func(v api.Value) []api.Value { return slices.Repeat([]api.Value{v}, 257) }
	// More than 256 ahead of all but how deep.
	for op := -1; op < 15; op++ {
		for _, col := range []int{-1, 0, texts, 4, 99} {
			isIn(t, api.Pred{Op: op, Col: col, Vals: many(number(5))}, api.ErrLimit)
			isIn(t, api.Pred{Op: op, Col: col, Vals: many(nothing)}, api.ErrLimit)
			isIn(t, api.Pred{Op: op, Col: col, Of: make([]api.Pred, 257)}, api.ErrLimit)
			isIn(t, api.Pred{Op: op, Col: col, Vals: many(text("a")), Of: make([]api.Pred, 257)}, api.ErrLimit)
		}
	}
	// ErrForm ahead of a column that there isn't, and of values.
	isIn(t, of(api.PEq, 9), api.ErrForm)
	isIn(t, of(api.PEq, 9, nothing, nothing), api.ErrForm)
	isIn(t, of(api.PBetween, -1, tooLong()), api.ErrForm)
	isIn(t, of(api.PBetween, texts, number(5)), api.ErrForm)
	isIn(t, of(api.PEq, texts, tooLong(), tooLong()), api.ErrForm)
	isIn(t, of(api.PNull, 9, nothing), api.ErrForm)
	isIn(t, api.Pred{Op: api.PNull, Col: 9, Of: []api.Pred{always()}}, api.ErrForm)
	isIn(t, api.Pred{Op: api.PIn, Col: 9, Vals: []api.Value{nothing}, Of: []api.Pred{always()}}, api.ErrForm)
	isIn(t, of(99, 9, nothing), api.ErrForm)
	// A kind ahead of a text that is too long, wherever both stand.
	isIn(t, of(api.PIn, texts, tooLong(), number(5)), api.ErrKind)
	isIn(t, of(api.PIn, texts, number(5), tooLong()), api.ErrKind)
	isIn(t, of(api.PIn, texts, tooLong(), text("a"), tooLong(), nothing), api.ErrKind)
	isIn(t, of(api.PBetween, texts, tooLong(), nothing), api.ErrKind)
	isIn(t, of(api.PBetween, texts, nothing, tooLong()), api.ErrKind)
	isIn(t, of(api.PBetween, texts, tooLong(), text("a")), api.ErrLimit)
	isIn(t, of(api.PBetween, texts, tooLong(), tooLong()), api.ErrLimit)
}

// Of faults of several parts it is the first part's, with all parts of its own, and
// what is wrong with a predicate is ahead of its parts.
func TestCheckOrderOfParts(t *testing.T) {
	s := columns()
	for _, x := range wrong() {
		for _, y := range wrong() {
			wantCheck(t, s, and(x.p, y.p), x.e)
			wantCheck(t, s, or(always(), x.p, y.p), x.e)
			wantCheck(t, s, and(not(x.p), y.p), x.e)
			wantCheck(t, s, and(or(always(), not(not(x.p))), y.p), x.e)
			wantCheck(t, s, and(or(always(), always()), not(x.p), not(y.p)), x.e)
			wantCheck(t, s, and(nested(x.p, 30), y.p), x.e)
			wantCheck(t, s, joined(api.PNot, x.p, y.p), api.ErrForm)
			wantCheck(t, s, joined(13, x.p, y.p), api.ErrForm)
			wantCheck(t, s, api.Pred{Op: api.PAnd, Col: 1, Of: []api.Pred{x.p, y.p}}, api.ErrForm)
			wantCheck(t, s, api.Pred{Op: api.PEq, Col: 9, Vals: []api.Value{number(1)}, Of: []api.Pred{x.p, y.p}}, api.ErrForm)
		}
		wantCheck(t, s, or(slices.Repeat([]api.Pred{x.p}, 257)...), api.ErrLimit)
	}
}

func TestCheckOfAny(t *testing.T) {
	told := map[api.Errno]int{}
	var h hat
	for i := range 60000 {
		p := h.pred(1+i%4, true)
		e := refusal(columns(), p, 0)
		told[e]++
		wantCheck(t, columns(), p, e)
	}
	for _, e := range []api.Errno{api.OK, api.ErrForm, api.ErrLimit, api.ErrNone, api.ErrKind} {
		if told[e] < 100 {
			t.Fatalf("%d of %d", told[e], e)
		}
	}
	for i := range 10000 {
		wantCheck(t, columns(), h.pred(1+i%5, false), api.OK)
	}
}
