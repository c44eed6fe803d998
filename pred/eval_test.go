package pred_test

import (
	"math"
	"slices"
	"strings"
	"testing"

	"estreat/api"
	"estreat/pred"
)

const (
	falsity = api.False
	unknown = api.Unknown
	truth   = api.True
)

// eachOf tells what a row of v is for each operator that holds a value against w.
func eachOf(t *testing.T, v, w api.Value, eq, ne, lt, le, gt, ge int) {
	t.Helper()
	for i, want := range []int{eq, ne, lt, le, gt, ge} {
		op := holding()[i]
		wantEval(t, of(op, 0, w), []api.Value{v}, want)
		wantEval(t, of(op, 2, w), []api.Value{number(-99), text("zz"), v, nothing}, want)
		wantEval(t, not(of(op, 0, w)), []api.Value{v}, 2-want)
	}
}

func isSame(t *testing.T, v, w api.Value) {
	t.Helper()
	eachOf(t, v, w, truth, falsity, falsity, truth, falsity, truth)
	eachOf(t, w, v, truth, falsity, falsity, truth, falsity, truth)
}

func isAhead(t *testing.T, v, w api.Value) {
	t.Helper()
	eachOf(t, v, w, falsity, truth, truth, truth, falsity, falsity)
	eachOf(t, w, v, falsity, truth, falsity, falsity, truth, truth)
}

// P16.1: Eval

func TestEvalOfTrue(t *testing.T) {
	for _, row := range [][]api.Value{nil, {}, {nothing}, {number(1), text("a")}} {
		wantEval(t, always(), row, truth)
		wantEval(t, not(always()), row, falsity)
	}
}

func TestEvalOfNumbers(t *testing.T) {
	l := []int64{math.MinInt64, math.MinInt64 + 1, -1 << 53, -1<<53 + 1, -1 << 32, -300, -2, -1, 0, 1, 2, 5, 300, 1 << 32, 1 << 53, 1<<53 + 1, math.MaxInt64 - 1, math.MaxInt64}
	for i, v := range l {
		isSame(t, number(v), number(v))
		for _, w := range l[i+1:] {
			isAhead(t, number(v), number(w))
		}
	}
}

// Of texts of which one begins the other it is ahead.
func TestEvalOfTexts(t *testing.T) {
	l := []string{"", "\x00", "\x00\x00", "\x01", "10", "9", "A", "Z", "a", "a\x00", "aa", "ab", "abc", "ab\xff", "b", "z", "\x7f", "\x80", "\xc3\xa4", "\xff", "\xff\x00", "\xff\xff"}
	for i, v := range l {
		isSame(t, text(v), text(strings.Clone(v)))
		for _, w := range l[i+1:] {
			isAhead(t, text(v), text(w))
		}
	}
	isSame(t, text(long(api.MaxText)), text(long(api.MaxText)))
	isAhead(t, text(long(api.MaxText)[:api.MaxText-1]), text(long(api.MaxText)))
	isAhead(t, text(long(api.MaxText)), text("m"))
}

// Of nothing none of 1 to 8 is true or false.
func TestEvalOfNothing(t *testing.T) {
	for _, w := range []api.Value{number(0), number(5), number(math.MinInt64), number(math.MaxInt64), text(""), text("a"), nothing, {Kind: -1}, {Kind: 3}} {
		eachOf(t, nothing, w, unknown, unknown, unknown, unknown, unknown, unknown)
		for _, row := range [][]api.Value{{nothing}, {nothing, w}} {
			wantEval(t, of(api.PIn, 0), row, unknown)
			wantEval(t, of(api.PIn, 0, w), row, unknown)
			wantEval(t, of(api.PIn, 0, w, number(1), w), row, unknown)
			wantEval(t, of(api.PBetween, 0, w, w), row, unknown)
			wantEval(t, of(api.PBetween, 0, number(9), w), row, unknown)
			wantEval(t, not(of(api.PIn, 0)), row, unknown)
		}
	}
}

func TestEvalOfIn(t *testing.T) {
	for _, x := range []struct {
		l    []api.Value
		v    api.Value
		want int
	}{
		{nil, number(5), falsity}, {nil, text(""), falsity}, {[]api.Value{}, number(0), falsity},
		{[]api.Value{number(5)}, number(5), truth}, {[]api.Value{number(5)}, number(4), falsity}, {[]api.Value{number(5)}, number(6), falsity},
		{[]api.Value{number(1), number(9)}, number(1), truth}, {[]api.Value{number(1), number(9)}, number(9), truth}, {[]api.Value{number(1), number(9)}, number(5), falsity},
		{[]api.Value{number(9), number(1), number(9), number(5)}, number(5), truth}, {[]api.Value{number(9), number(9)}, number(9), truth},
		{[]api.Value{number(math.MinInt64), number(math.MaxInt64)}, number(math.MaxInt64), truth}, {[]api.Value{number(math.MinInt64), number(math.MaxInt64)}, number(math.MinInt64), truth},
		{[]api.Value{number(math.MinInt64), number(math.MaxInt64)}, number(0), falsity},
		{[]api.Value{text("a"), text("abc")}, text("ab"), falsity}, {[]api.Value{text("a"), text("abc")}, text("abc"), truth}, {[]api.Value{text("a"), text("")}, text(""), truth},
		{[]api.Value{text("a"), text("abc")}, text(""), falsity}, {[]api.Value{text(long(api.MaxText))}, text(long(api.MaxText)), truth},
	} {
		wantEval(t, of(api.PIn, 0, x.l...), []api.Value{x.v}, x.want)
		wantEval(t, of(api.PIn, 1, x.l...), []api.Value{nothing, x.v}, x.want)
		wantEval(t, not(of(api.PIn, 0, x.l...)), []api.Value{x.v}, 2-x.want)
	}
	var l []api.Value
	for n := range int64(256) {
		l = append(l, number(n*2))
	}
	for n := int64(-2); n < 514; n++ {
		want := falsity
		if n%2 == 0 && n >= 0 && n <= 510 {
			want = truth
		}
		wantEval(t, of(api.PIn, 0, l...), []api.Value{number(n)}, want)
	}
}

func TestEvalOfBetween(t *testing.T) {
	between := func(a, b, v api.Value, want int) {
		t.Helper()
		wantEval(t, of(api.PBetween, 0, a, b), []api.Value{v}, want)
		wantEval(t, of(api.PBetween, 1, a, b), []api.Value{a, v, b}, want)
		wantEval(t, not(of(api.PBetween, 0, a, b)), []api.Value{v}, 2-want)
	}
	l := []api.Value{
		number(math.MinInt64), number(math.MinInt64 + 1), number(-5), number(-1), number(0), number(5), number(math.MaxInt64 - 1), number(math.MaxInt64),
		text(""), text("\x00"), text("a"), text("aa"), text("ab"), text("b"), text("\xff"),
	}
	for i, a := range l {
		for j, b := range l {
			for k, v := range l {
				want := falsity
				if i <= k && k <= j {
					want = truth
				}
				between(a, b, v, want)
			}
		}
	}
	between(number(5), number(9), number(5), truth)
	between(number(5), number(9), number(9), truth)
	between(number(5), number(9), number(7), truth)
	between(number(5), number(9), number(4), falsity)
	between(number(5), number(9), number(10), falsity)
	between(number(9), number(5), number(7), falsity)
	between(number(9), number(5), number(9), falsity)
	between(number(9), number(5), number(5), falsity)
	between(number(7), number(7), number(7), truth)
	between(text("a"), text("ab"), text("a"), truth)
	between(text("a"), text("ab"), text("abc"), falsity)
}

func TestEvalOfNull(t *testing.T) {
	for _, v := range []api.Value{number(0), number(-1), text(""), text("a")} {
		wantEval(t, of(api.PNull, 0), []api.Value{v}, falsity)
		wantEval(t, of(api.PNull, 0), []api.Value{v, nothing}, falsity)
		wantEval(t, of(api.PNull, 1), []api.Value{v, nothing}, truth)
		wantEval(t, not(of(api.PNull, 1)), []api.Value{v, nothing}, falsity)
	}
	wantEval(t, of(api.PNull, 0), []api.Value{nothing}, truth)
}

// ofTruth is predicates of each truth, of a row of nothing and 5.
func ofTruth() [3][]api.Pred {
	return [3][]api.Pred{
		{not(always()), of(api.PNull, 1), of(api.PEq, 1, number(6)), of(api.PIn, 1)},
		{of(api.PEq, 0, number(5)), of(api.PIn, 0), not(of(api.PNe, 0, number(5))), of(99, 0)},
		{always(), of(api.PNull, 0), of(api.PEq, 1, number(5)), not(not(always()))},
	}
}

func nothingAnd5() []api.Value { return []api.Value{nothing, number(5)} }

// The least and the greatest of the parts' truths, in each order.
func TestEvalOfAndOr(t *testing.T) {
	l := ofTruth()
	for a := range 3 {
		for i := range 4 {
			p := l[a][i]
			wantEval(t, p, nothingAnd5(), a)
			wantEval(t, and(p), nothingAnd5(), a)
			wantEval(t, or(p), nothingAnd5(), a)
			for b := range 3 {
				q := l[b][(i+1)%4]
				wantEval(t, and(p, q), nothingAnd5(), min(a, b))
				wantEval(t, or(p, q), nothingAnd5(), max(a, b))
				for c := range 3 {
					r := l[c][(i+2)%4]
					wantEval(t, and(p, q, r), nothingAnd5(), min(a, b, c))
					wantEval(t, or(p, q, r), nothingAnd5(), max(a, b, c))
					wantEval(t, and(p, or(q, r)), nothingAnd5(), min(a, max(b, c)))
					wantEval(t, or(and(p, q), r), nothingAnd5(), max(min(a, b), c))
					wantEval(t, and(not(p), or(q, not(r)), and(or(p), not(q))), nothingAnd5(), min(2-a, max(b, 2-c), a, 2-b))
					wantEval(t, or(and(q, r, p), or(not(and(p, q)), r), not(q)), nothingAnd5(), max(min(a, b, c), 2-min(a, b), c, 2-b))
				}
			}
		}
	}
	for n := 1; n <= 256; n += 5 {
		for _, last := range []int{0, n / 2, n - 1} {
			for a := range 3 {
				ones, zeros := slices.Repeat([]api.Pred{always()}, n), slices.Repeat([]api.Pred{not(always())}, n)
				ones[last], zeros[last] = l[a][0], l[a][1]
				wantEval(t, and(ones...), nothingAnd5(), a)
				wantEval(t, or(zeros...), nothingAnd5(), a)
			}
		}
	}
}

func TestEvalOfNot(t *testing.T) {
	for a, l := range ofTruth() {
		for _, p := range l {
			for n := range 32 {
				want := a
				if n%2 == 1 {
					want = 2 - a
				}
				wantEval(t, p, nothingAnd5(), want)
				p = not(p)
			}
		}
	}
}

// Of predicates that aren't right

func TestEvalOfNoOperator(t *testing.T) {
	for _, op := range none() {
		for _, row := range [][]api.Value{nil, {number(5)}, {nothing}, nothingAnd5()} {
			wantEval(t, of(op, 0), row, unknown)
			wantEval(t, of(op, 0, number(5)), row, unknown)
			wantEval(t, of(op, 0, number(5), number(6)), row, unknown)
			wantEval(t, joined(op, always()), row, unknown)
			wantEval(t, joined(op, not(always()), always()), row, unknown)
			wantEval(t, not(of(op, 0, number(5))), row, unknown)
			wantEval(t, or(of(op, 0), always()), row, truth)
		}
	}
}

func TestEvalWithoutSuchAColumn(t *testing.T) {
	for _, op := range naming() {
		for _, row := range [][]api.Value{nil, {}, {number(5)}, nothingAnd5(), slices.Repeat([]api.Value{number(5)}, 64), []api.Value{number(5), number(5)}[:1]} {
			for _, col := range append(farColumns(), len(row), len(row)+1) {
				p := of(op, col, fits(op, number(5))...)
				if col < 0 || col >= len(row) {
					wantEval(t, p, row, unknown)
					wantEval(t, not(p), row, unknown)
				}
			}
		}
		// The last one is there.
		row := append(slices.Repeat([]api.Value{nothing}, 63), number(5))
		if v := pred.Eval(of(op, 63, fits(op, number(5))...), row); v == unknown {
			t.Fatalf("%d of the last column: %d", op, v)
		}
	}
}

func TestEvalOfAnotherNumberOfValues(t *testing.T) {
	row := []api.Value{number(5), text("a"), nothing}
	for _, n := range []int{0, 1, 2, 3, 255, 256, 257, 258, 300, 512, 70000} {
		for col := range row {
			for _, v := range []api.Value{number(5), number(4), text("a"), nothing} {
				l := slices.Repeat([]api.Value{v}, n)
				for _, op := range holding() {
					if n != 1 {
						wantEval(t, of(op, col, l...), row, unknown)
						wantEval(t, not(of(op, col, l...)), row, unknown)
					}
				}
				if n != 2 {
					wantEval(t, of(api.PBetween, col, l...), row, unknown)
				}
				if n > 256 {
					wantEval(t, of(api.PIn, col, l...), row, unknown)
				}
			}
		}
		want := truth
		if n == 0 {
			want = falsity
		}
		if n > 256 {
			want = unknown
		}
		wantEval(t, of(api.PIn, 0, slices.Repeat([]api.Value{number(5)}, n)...), row, want)
	}
	// What lies behind a list's length doesn't count.
	wantEval(t, api.Pred{Op: api.PEq, Vals: []api.Value{number(5), number(6)}[:1]}, row, truth)
	wantEval(t, api.Pred{Op: api.PEq, Vals: []api.Value{number(5), number(6)}[:0]}, row, unknown)
	wantEval(t, api.Pred{Op: api.PIn, Vals: []api.Value{number(6), number(5)}[:1]}, row, falsity)
}

func TestEvalOfPartsWhereNoneAre(t *testing.T) {
	row := []api.Value{number(5)}
	for _, parts := range [][]api.Pred{{always()}, {not(always())}, {always(), always()}, {of(99, 0)}, slices.Repeat([]api.Pred{always()}, 300)} {
		for op := api.PEq; op <= api.PBetween; op++ {
			p := of(op, 0, fits(op, number(5))...)
			p.Of = parts
			wantEval(t, p, row, unknown)
			wantEval(t, not(p), row, unknown)
			wantEval(t, and(always(), p, always()), row, unknown)
		}
	}
	p := of(api.PEq, 0, number(5))
	p.Of = []api.Pred{}
	wantEval(t, p, row, truth)
}

func TestEvalWithoutParts(t *testing.T) {
	for _, op := range []int{api.PAnd, api.POr, api.PNot} {
		for _, row := range [][]api.Value{nil, {number(5)}, {nothing}} {
			wantEval(t, joined(op), row, unknown)
			wantEval(t, api.Pred{Op: op, Of: []api.Pred{}}, row, unknown)
			wantEval(t, api.Pred{Op: op, Of: []api.Pred{always()}[:0]}, row, unknown)
			wantEval(t, of(op, 0, number(5)), row, unknown)
			wantEval(t, and(always(), joined(op)), row, unknown)
			wantEval(t, or(joined(op), not(always())), row, unknown)
		}
	}
}

// Of PNot's parts it is the first one that counts.
func TestEvalOfNotOfSeveralParts(t *testing.T) {
	l := ofTruth()
	for a := range 3 {
		for b := range 3 {
			for i := range 4 {
				p, q := l[a][i], l[b][(i+1)%4]
				wantEval(t, joined(api.PNot, p, q), nothingAnd5(), 2-a)
				wantEval(t, joined(api.PNot, p, q, p), nothingAnd5(), 2-a)
				wantEval(t, joined(api.PNot, p, q, not(q), and(q, p)), nothingAnd5(), 2-a)
				wantEval(t, joined(api.PNot, and(p, q), q, p), nothingAnd5(), 2-min(a, b))
				wantEval(t, joined(api.PNot, joined(api.PNot, q, p), p), nothingAnd5(), b)
				wantEval(t, joined(api.PNot, append([]api.Pred{p}, slices.Repeat([]api.Pred{q}, 300)...)...), nothingAnd5(), 2-a)
			}
		}
	}
}

// All else that isn't right doesn't matter.
func TestEvalOfWhatDoesntMatter(t *testing.T) {
	row := []api.Value{number(5), nothing}
	junk := func(p api.Pred) api.Pred {
		p.Col, p.Vals = -7, slices.Repeat([]api.Value{{Kind: 9, N: 1, S: "a"}}, 300)
		return p
	}
	// Values, parts and a column of operators that have none.
	wantEval(t, api.Pred{Col: 99, Vals: []api.Value{number(1)}, Of: []api.Pred{not(always())}}, row, truth)
	wantEval(t, api.Pred{Col: -1, Of: slices.Repeat([]api.Pred{of(99, 0)}, 300)}, row, truth)
	for a, l := range ofTruth() {
		for _, p := range l {
			wantEval(t, junk(and(p)), nothingAnd5(), a)
			wantEval(t, junk(or(p, p)), nothingAnd5(), a)
			wantEval(t, junk(not(p)), nothingAnd5(), 2-a)
		}
	}
	for _, values := range [][]api.Value{nil, {number(1)}, {nothing, tooLong()}, slices.Repeat([]api.Value{number(1)}, 300)} {
		for _, parts := range [][]api.Pred{nil, {always()}, {not(always())}, slices.Repeat([]api.Pred{of(99, 0)}, 300)} {
			wantEval(t, api.Pred{Op: api.PNull, Vals: values, Of: parts}, row, falsity)
			wantEval(t, api.Pred{Op: api.PNull, Col: 1, Vals: values, Of: parts}, row, truth)
			wantEval(t, api.Pred{Op: api.PNull, Col: 2, Vals: values, Of: parts}, row, unknown)
		}
	}
	// More than 256 parts.
	for _, n := range []int{257, 1000} {
		for _, at := range []int{0, 255, 256, n - 1} {
			ones, zeros := slices.Repeat([]api.Pred{always()}, n), slices.Repeat([]api.Pred{not(always())}, n)
			wantEval(t, and(ones...), row, truth)
			wantEval(t, or(zeros...), row, falsity)
			ones[at], zeros[at] = of(99, 0), of(99, 0)
			wantEval(t, and(ones...), row, unknown)
			wantEval(t, or(zeros...), row, unknown)
			ones[at], zeros[at] = not(always()), always()
			wantEval(t, and(ones...), row, falsity)
			wantEval(t, or(zeros...), row, truth)
		}
	}
	// Texts that are too long.
	isSame(t, tooLong(), tooLong())
	isAhead(t, text(long(api.MaxText)), text("m"+long(api.MaxText)))
	wantEval(t, of(api.PIn, 0, text("a"), tooLong()), []api.Value{tooLong()}, truth)
}

// Values of another kind stand to each other as layer 15 orders them.
func TestEvalOfValuesOfAnotherKind(t *testing.T) {
	l := []api.Value{{Kind: math.MinInt}, {Kind: -1}, number(5), text(""), {Kind: 3}, {Kind: 257}, {Kind: math.MaxInt}}
	for i, v := range l {
		isSame(t, v, v)
		for _, w := range l[i+1:] {
			isAhead(t, v, w)
		}
	}
	// Nothing is ahead of a number.
	eachOf(t, number(math.MinInt64), nothing, falsity, truth, falsity, falsity, truth, truth)
	wantEval(t, of(api.PBetween, 0, nothing, text("")), []api.Value{number(5)}, truth)
	wantEval(t, of(api.PBetween, 0, number(9), text("")), []api.Value{number(5)}, falsity)
	wantEval(t, of(api.PBetween, 0, number(1), text("")), []api.Value{text("")}, truth)
	wantEval(t, of(api.PIn, 0, nothing, text("5"), number(5)), []api.Value{number(5)}, truth)
	wantEval(t, of(api.PIn, 0, nothing, text("5")), []api.Value{number(5)}, falsity)
	// What a value's kind doesn't have isn't held against anything.
	isSame(t, api.Value{Kind: api.KInt, N: 5, S: "a"}, number(5))
	isSame(t, api.Value{Kind: api.KText, N: 5, S: "a"}, text("a"))
	isSame(t, api.Value{Kind: 3, N: 5, S: "a"}, api.Value{Kind: 3})
	wantEval(t, of(api.PIn, 0, number(4), api.Value{Kind: api.KInt, N: 5, S: "a"}), []api.Value{number(5)}, truth)
	wantEval(t, of(api.PNull, 0), []api.Value{{N: 5, S: "a"}}, truth)
	wantEval(t, of(api.PNull, 0), []api.Value{{Kind: 9}}, falsity)
	eachOf(t, api.Value{N: 5}, number(5), unknown, unknown, unknown, unknown, unknown, unknown)
}

func TestEvalOfAny(t *testing.T) {
	told := map[int]int{}
	var h hat
	for i := range 60000 {
		p, row := h.pred(1+i%4, i%2 == 0), h.row()
		want := truthOf(p, row)
		told[want]++
		wantEval(t, p, row, want)
		wantEval(t, p, row[:i%4], truthOf(p, row[:i%4]))
	}
	for v, n := range told {
		if n < 1000 || len(told) != 3 {
			t.Fatalf("%d of %d", n, v)
		}
	}
}

// P16.3: truths of not

func TestNotNot(t *testing.T) {
	var h hat
	for i := range 20000 {
		p, q, row := h.pred(i%3, false), h.pred(i%4, i%5 == 0), h.row()
		a := pred.Eval(p, row)
		if v := pred.Eval(not(not(p)), row); v != a {
			t.Fatalf("%s of %s: %d, twice not %d", shown(p), shown(row), a, v)
		}
		if v, w := pred.Eval(not(and(p, q)), row), pred.Eval(or(not(p), not(q)), row); v != w {
			t.Fatalf("%s, %s of %s: %d, and %d", shown(p), shown(q), shown(row), v, w)
		}
		if v, w := pred.Eval(not(or(p, q)), row), pred.Eval(and(not(p), not(q)), row); v != w {
			t.Fatalf("%s, %s of %s: %d, and %d", shown(p), shown(q), shown(row), v, w)
		}
	}
}
