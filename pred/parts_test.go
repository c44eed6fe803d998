package pred_test

import (
	"bytes"
	"math"
	"runtime/debug"
	"slices"
	"testing"

	"estreat/api"
	"estreat/num"
	"estreat/pred"
)

// P16.2: Cols

func TestCols(t *testing.T) {
	wantCols(t, always())
	wantCols(t, not(always()))
	for _, op := range naming() {
		for _, col := range []int{0, 1, 5, 63} {
			wantCols(t, of(op, col, fits(op, number(5))...), col)
			wantCols(t, nested(of(op, col, fits(op, number(5))...), 31), col)
		}
	}
	wantCols(t, and(of(api.PNull, 3), of(api.PNull, 1), of(api.PNull, 2)), 1, 2, 3)
	wantCols(t, or(of(api.PNull, 3), of(api.PEq, 3, number(1)), of(api.PIn, 3)), 3)
	wantCols(t, or(of(api.PNull, 0), always(), of(api.PNull, 0)), 0)
	wantCols(t, and(of(api.PNull, 9), not(of(api.PNull, 0)), or(of(api.PNull, 5), not(not(of(api.PEq, 9, number(1)))), of(api.PNull, 0))), 0, 5, 9)
	var l []api.Pred
	var want []int
	for i := range 64 {
		l = append(l, or(of(api.PNull, 63-i), not(of(api.PNull, i*7%64))))
		want = append(want, i)
	}
	wantCols(t, and(l...), want...)
}

// Of predicates that aren't right, too: an operator that names no column has none, and
// one that names a column that there isn't names it.
func TestColsOfWhatIsntRight(t *testing.T) {
	for _, op := range append(none(), api.PTrue, api.PAnd, api.POr, api.PNot) {
		wantCols(t, of(op, 5))
		wantCols(t, of(op, 5, number(1)))
		wantCols(t, api.Pred{Op: op, Col: 5, Of: []api.Pred{of(api.PNull, 3)}}, 3)
		wantCols(t, api.Pred{Op: op, Col: 5, Of: []api.Pred{of(api.PNull, 3), of(op, 9), of(api.PNull, 2)}}, 2, 3)
	}
	for _, op := range naming() {
		for _, col := range farColumns() {
			wantCols(t, of(op, col), col)
		}
		wantCols(t, api.Pred{Op: op, Col: 5, Vals: []api.Value{nothing, nothing, nothing}, Of: []api.Pred{of(api.PNull, 3), of(api.PNull, 7)}}, 3, 5, 7)
	}
	wantCols(t, and(of(api.PNull, math.MaxInt), of(api.PNull, -1), of(api.PNull, math.MinInt), of(api.PNull, 0)), math.MinInt, -1, 0, math.MaxInt)
	var l []api.Pred
	for i := range 1000 {
		l = append(l, of(api.PNull, (i*7)%1000))
	}
	if cols := pred.Cols(and(l...)); len(cols) != 1000 || !slices.IsSorted(cols) {
		t.Fatalf("%d columns of 1000", len(cols))
	}
	var h hat
	for i := range 10000 {
		p := h.pred(1+i%4, i%2 == 0)
		wantCols(t, p, columnsOf(p)...)
	}
}

// P16.2: Copy

func TestCopy(t *testing.T) {
	for _, p := range right() {
		wantCopy(t, p)
		wantCopy(t, nested(p, 31))
	}
	for _, op := range append(none(), api.PTrue, api.PIn, api.PNot) {
		wantCopy(t, of(op, -7))
		wantCopy(t, api.Pred{Op: op, Col: math.MinInt, Vals: []api.Value{{Kind: 9, N: 1, S: "a"}, nothing, tooLong()}, Of: []api.Pred{of(op, 5, number(1)), not(always())}})
		wantCopy(t, api.Pred{Op: op, Col: 3, Vals: slices.Repeat([]api.Value{text("a")}, 300), Of: slices.Repeat([]api.Pred{of(op, 1, nothing)}, 300)})
	}
	wantCopy(t, api.Pred{Vals: []api.Value{}, Of: []api.Pred{}})
	var h hat
	for i := range 10000 {
		wantCopy(t, h.pred(1+i%4, i%2 == 0))
	}
}

// spoil writes over all values and parts, and behind them.
func spoil(p *api.Pred) {
	for i := range p.Of {
		spoil(&p.Of[i])
	}
	p.Op, p.Col = 99, 99
	for i := range p.Vals {
		p.Vals[i] = text("spoilt")
	}
	for i := range p.Of {
		p.Of[i] = of(99, 99)
	}
	_, _ = append(p.Vals, text("behind")), append(p.Of, of(98, 98))
}

func TestCopySharesNoMemory(t *testing.T) {
	var h hat
	for i := range 3000 {
		seed := h
		p := h.pred(1+i%4, i%2 == 0)
		same := func() api.Pred { g := seed; return g.pred(1+i%4, i%2 == 0) }
		q := pred.Copy(p)
		spoil(&q)
		if !samePred(p, same()) {
			t.Fatalf("%s: changed with its copy, which was %s", shown(p), shown(same()))
		}
		q = pred.Copy(p)
		again := pred.Copy(p)
		spoil(&p)
		if !samePred(q, same()) {
			t.Fatalf("%s: changed with what it is a copy of", shown(q))
		}
		spoil(&q)
		if !samePred(again, same()) {
			t.Fatalf("%s: changed with another copy", shown(again))
		}
	}
}

// Lists that lie in one memory lie apart in the copy.
func TestCopyTakesApart(t *testing.T) {
	values := []api.Value{number(1), number(2)}
	parts := []api.Pred{of(api.PIn, 0, values...), of(api.PIn, 1, values...)}
	parts[0].Vals, parts[1].Vals = values, values
	p := and(or(), or())
	p.Of[0].Of, p.Of[1].Of = parts, parts
	q := pred.Copy(p)
	q.Of[0].Of[0].Vals[0] = text("a")
	q.Of[0].Of[1] = always()
	want := and(or(of(api.PIn, 0, text("a"), number(2)), always()), or(of(api.PIn, 0, number(1), number(2)), of(api.PIn, 1, number(1), number(2))))
	if !samePred(q, want) {
		t.Fatalf("%s, not %s", shown(q), shown(want))
	}
	if p.Of[1].Of[1].Vals[0] != number(1) || values[0] != number(1) || len(parts[1].Vals) != 2 {
		t.Fatalf("%s: changed", shown(p))
	}
	// What lies behind a list's length is neither read nor written.
	roomy := api.Pred{Op: api.POr, Vals: values[:1], Of: parts[:1]}
	q = pred.Copy(roomy)
	q.Vals, q.Of = append(q.Vals, text("b")), append(q.Of, always())
	if values[1] != number(2) || parts[1].Op != api.PIn {
		t.Fatalf("%v, %s: written behind", values, shown(parts))
	}
}

// R4 and R7: memory, and one answer

func TestWhatIsHandedInStays(t *testing.T) {
	var h hat
	s := columns()
	for i := range 3000 {
		seed := h
		p, row := h.pred(1+i%4, i%2 == 0), h.row()
		same := func() (api.Pred, []api.Value) { g := seed; return g.pred(1+i%4, i%2 == 0), g.row() }
		e, v, b, cols := pred.Check(s, p), pred.Eval(p, row), pred.Put(p), pred.Cols(p)
		wantP, wantRow := same()
		if !samePred(p, wantP) || !slices.Equal(row, wantRow) || !slices.Equal(s, columns()) {
			t.Fatalf("%s of %v: changed", shown(wantP), wantRow)
		}
		if e != pred.Check(s, p) || v != pred.Eval(p, row) || !bytes.Equal(b, pred.Put(p)) || !slices.Equal(cols, pred.Cols(p)) {
			t.Fatalf("%s of %v: answers another time otherwise", shown(wantP), wantRow)
		}
		// What is answered may be written over.
		other, more := pred.Put(p), pred.Cols(p)
		for j := range other {
			other[j]++
		}
		for j := range more {
			more[j]++
		}
		if !bytes.Equal(b, pred.Put(p)) || !slices.Equal(cols, pred.Cols(p)) || !samePred(p, wantP) {
			t.Fatalf("%s: shared", shown(wantP))
		}
	}
}

func TestTakeSharesNoMemory(t *testing.T) {
	var h hat
	for i := range 2000 {
		p := h.pred(1+i%4, false)
		b := pred.Put(p)
		kept := slices.Clone(b)
		r := num.NewReader(join(b, b))
		first, second := pred.Take(r), pred.Take(r)
		again := pred.Take(num.NewReader(b))
		for j := range b {
			b[j] = 0x55
		}
		if !samePred(first, p) || !samePred(second, p) || !bytes.Equal(kept, pred.Put(p)) {
			t.Fatalf("%s, not %s: shared", shown(first), shown(p))
		}
		spoil(&first)
		if !samePred(second, p) || !samePred(again, p) {
			t.Fatalf("%s, not %s: shared", shown(second), shown(p))
		}
	}
	// No list lies in another one's memory.
	p := and(of(api.PIn, 0, number(1), number(2), number(3)), or(of(api.PIn, 1, text("a"), text("b"), text("c")), always(), always()), not(always()))
	q := pred.Take(num.NewReader(pred.Put(p)))
	spoil(&q.Of[0])
	spoil(&q.Of[1].Of[0])
	want := pred.Copy(p)
	spoil(&want.Of[0])
	spoil(&want.Of[1].Of[0])
	if !samePred(q, want) {
		t.Fatalf("%s, not %s", shown(q), shown(want))
	}
}

// P1: What is nested deeper than calls may be is told, too.

func TestOfAnyDepth(t *testing.T) {
	defer debug.SetMaxStack(debug.SetMaxStack(1 << 20))
	const deep = 1 << 17
	p := chain(deep)
	if v := pred.Eval(p, nil); v != truth {
		t.Fatalf("%d", v)
	}
	if v := pred.Eval(not(p), nil); v != falsity {
		t.Fatalf("%d", v)
	}
	if b := pred.Put(p); !bytes.Equal(b, join(bytes.Repeat([]byte{12, 0, 0, 1}, deep), []byte{0, 0, 0, 0})) {
		t.Fatalf("%d bytes", len(b))
	}
	if e := pred.Check(columns(), p); e != api.ErrDeep {
		t.Fatalf("%d", e)
	}
	wide := of(api.PNull, 7)
	for i := range deep {
		wide = and(of(api.PNull, 6-i%3), wide)
	}
	if l := pred.Cols(wide); !slices.Equal(l, []int{4, 5, 6, 7}) {
		t.Fatalf("%v", l)
	}
	if v := pred.Eval(wide, slices.Repeat([]api.Value{nothing}, 8)); v != truth {
		t.Fatalf("%d", v)
	}
	if v := pred.Eval(wide, slices.Repeat([]api.Value{nothing}, 7)); v != unknown {
		t.Fatalf("%d", v)
	}
	q := pred.Copy(wide)
	for range deep {
		if q.Op != api.PAnd || len(q.Of) != 2 || q.Of[0].Col != wide.Of[0].Col || &q.Of[0] == &wide.Of[0] {
			t.Fatalf("%d with %d parts", q.Op, len(q.Of))
		}
		q, wide = q.Of[1], wide.Of[1]
	}
	if !samePred(q, of(api.PNull, 7)) {
		t.Fatalf("%s", shown(q))
	}
}
