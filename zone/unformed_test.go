package zone_test

import (
	"math"
	"runtime/debug"
	"slices"
	"testing"

	"estreat/api"
	"estreat/zone"
)

// P17.1: of predicates that aren't formed as they should be

// isAny looks whether all truths may be of p by itself, and as a part of others, where
// these settle the truth and where they don't.
func isAny(t *testing.T, p api.Pred, z []api.Zone) {
	t.Helper()
	for _, n := range []int{1, rows, math.MaxInt} {
		wantMay(t, p, n, z, read("FUT"))
	}
	for _, n := range []int{0, -1, math.MinInt} {
		wantMay(t, p, n, z, read(""))
	}
	for _, x := range []struct {
		p    api.Pred
		want string
	}{
		{not(p), "FUT"}, {not(not(p)), "FUT"}, {and(p), "FUT"}, {or(p), "FUT"}, {and(p, p), "FUT"}, {or(p, p, p), "FUT"},
		// Beneath what it doesn't settle.
		{and(p, always()), "FUT"}, {and(always(), p), "FUT"}, {or(p, not(always())), "FUT"}, {or(not(always()), p), "FUT"}, {not(and(always(), p, always())), "FUT"},
		// Where the truth is settled by another part.
		{and(p, not(always())), "F"}, {and(not(always()), p), "F"}, {or(p, always()), "T"}, {or(always(), p), "T"}, {or(always(), not(always()), p), "T"}, {not(or(p, always())), "F"}, {not(and(p, not(always()))), "T"},
		{and(or(p, always()), always()), "T"}, {or(and(p, not(always())), p), "FUT"}, {and(or(always(), p), not(p)), "FUT"}, {and(not(and(p)), or(p, not(p)), not(always())), "F"},
		{joined(api.PNot, p, p), "FUT"}, {joined(13, always(), p), "FUT"}, {of(api.PNull, len(z), nothing), "FUT"},
	} {
		wantMay(t, x.p, rows, z, read(x.want))
		wantMay(t, x.p, 0, z, read(""))
	}
	// Where of another part just so much may be.
	if len(z) == 0 {
		return
	}
	unknownOnly := slices.Concat(z[:len(z)-1], []api.Zone{only(rows)})
	q := of(api.PEq, len(z)-1, number(5))
	wantMay(t, and(p, q), rows, unknownOnly, read("FU"))
	wantMay(t, or(q, p), rows, unknownOnly, read("UT"))
	noneMay := slices.Concat(z[:len(z)-1], []api.Zone{only(0)})
	wantMay(t, and(p, q), rows, noneMay, read(""))
	wantMay(t, and(not(always()), q), rows, noneMay, read(""))
	wantMay(t, or(q, p, always()), rows, noneMay, read(""))
}

// isFormed looks whether p is told by the table.
func isFormed(t *testing.T, p api.Pred, z []api.Zone) {
	t.Helper()
	if !isAsItShould(p, len(z)) {
		t.Fatalf("%s: by the document it isn't formed", shown(p))
	}
	may := mayBe(p, rows, z)
	wantMay(t, p, rows, z, may)
	wantMay(t, and(p, always()), rows, z, may)
	wantMay(t, not(p), rows, z, turned(may))
	if may == read("FUT") {
		t.Fatalf("%s: nothing is told by it", shown(p))
	}
}

func fives() []api.Zone { return []api.Zone{span(0, number(5), number(9))} }

func TestMayOfHowManyValues(t *testing.T) {
	may := map[int][]int{api.PIn: {0, 1, 2, 3, 4, 255, 256}, api.PBetween: {2}}
	for _, op := range holding() {
		may[op] = []int{1}
	}
	for op := range api.PNot + 1 {
		for _, n := range []int{0, 1, 2, 3, 4, 255, 256, 257, 258, 512, 70000} {
			p := of(op, 0, slices.Repeat([]api.Value{number(10)}, n)...)
			if op >= api.PAnd {
				p.Of = []api.Pred{always()}
			}
			if slices.Contains(may[op], n) || n == 0 && (op == api.PTrue || op >= api.PNull) {
				isFormed(t, p, fives())
				continue
			}
			isAny(t, p, fives())
		}
	}
}

func TestMayOfHowManyParts(t *testing.T) {
	for op := range api.PNot + 1 {
		for _, n := range []int{0, 1, 2, 3, 4, 255, 256, 257, 258, 512, 70000} {
			p := joined(op, slices.Repeat([]api.Pred{always()}, n)...)
			p.Vals = fits(min(op, api.PNot), number(10))
			if op < api.PAnd && n == 0 || op == api.PNot && n == 1 || (op == api.PAnd || op == api.POr) && n > 0 && n <= 256 {
				isFormed(t, p, fives())
				continue
			}
			isAny(t, p, fives())
		}
	}
}

// What a part is doesn't count where the predicate that has it isn't formed.
func TestMayOfPartsOfUnformedOnes(t *testing.T) {
	for _, part := range []api.Pred{always(), not(always()), of(api.PEq, 0, number(10)), of(99, 0), joined(api.PNot), and(not(always()), of(api.PEq, 7))} {
		for op := api.PTrue; op <= api.PNull; op++ {
			p := of(op, 0, fits(op, number(10))...)
			p.Of = []api.Pred{part}
			isAny(t, p, fives())
			p.Of = []api.Pred{part, part}
			isAny(t, p, fives())
		}
		isAny(t, joined(api.PNot, part, always()), fives())
		isAny(t, api.Pred{Op: api.PAnd, Col: 1, Of: []api.Pred{part}}, fives())
		isAny(t, api.Pred{Op: api.POr, Vals: []api.Value{number(1)}, Of: []api.Pred{part}}, fives())
		isAny(t, and(slices.Repeat([]api.Pred{part}, 257)...), fives())
		isAny(t, joined(-1, part), fives())
	}
	// A part that has itself as a part ends where it isn't formed.
	loop := []api.Pred{{Op: api.PEq, Vals: []api.Value{number(10)}}}
	loop[0].Of = loop
	if may := zone.May(not(loop[0]), rows, fives()); may != read("FUT") {
		t.Fatalf("%v", may)
	}
}

func TestMayOfEmptyLists(t *testing.T) {
	values, parts := []api.Value{}, []api.Pred{}
	isFormed(t, api.Pred{Vals: values, Of: parts}, fives())
	isFormed(t, api.Pred{Op: api.PNull, Vals: values, Of: parts}, fives())
	isFormed(t, api.Pred{Op: api.PIn, Vals: values, Of: parts}, fives())
	isFormed(t, api.Pred{Op: api.PEq, Vals: []api.Value{number(1)}, Of: parts}, fives())
	isFormed(t, api.Pred{Op: api.PNot, Vals: values, Of: []api.Pred{always()}}, fives())
	isAny(t, api.Pred{Op: api.PAnd, Vals: values, Of: parts}, fives())
	isAny(t, api.Pred{Op: api.PNot, Vals: values, Of: parts}, fives())
	isAny(t, api.Pred{Op: api.PEq, Vals: values}, fives())
	// What lies behind a list's length doesn't count.
	isFormed(t, api.Pred{Op: api.PEq, Vals: []api.Value{number(1), text("a")}[:1], Of: []api.Pred{always()}[:0]}, fives())
	isFormed(t, api.Pred{Op: api.PAnd, Of: []api.Pred{always(), of(99, 0)}[:1]}, fives())
	isAny(t, api.Pred{Op: api.PEq, Vals: []api.Value{number(1)}[:0]}, fives())
	isAny(t, api.Pred{Op: api.PEq, Col: 1, Vals: []api.Value{number(1)}}, append(fives(), fives()...)[:1])
}

func TestMayOfAColumnWhereNoneIsNamed(t *testing.T) {
	for _, z := range [][]api.Zone{nil, fives(), slices.Repeat(fives(), 4)} {
		for _, col := range append(farColumns(), 1, 2, 3, 4) {
			isAny(t, api.Pred{Col: col}, z)
			for _, op := range []int{api.PAnd, api.POr, api.PNot} {
				isAny(t, api.Pred{Op: op, Col: col, Of: []api.Pred{always()}}, z)
			}
		}
		for _, op := range []int{api.PAnd, api.POr, api.PNot} {
			isFormed(t, api.Pred{Op: op, Of: []api.Pred{always()}}, z)
		}
	}
}

func TestMayOfNoOperator(t *testing.T) {
	for _, op := range none() {
		isAny(t, of(op, 0), fives())
		isAny(t, of(op, 0), nil)
		isAny(t, of(op, 7), fives())
		isAny(t, of(op, 0, number(10)), fives())
		isAny(t, of(op, 0, number(10), number(10)), fives())
		isAny(t, joined(op, always()), fives())
		isAny(t, joined(op, not(always()), not(always())), fives())
		isAny(t, of(op, 0, slices.Repeat([]api.Value{number(10)}, 257)...), fives())
	}
}

func TestMayOfNoColumn(t *testing.T) {
	for _, op := range naming() {
		for n := range 5 {
			z := slices.Repeat(fives(), n)
			for _, col := range append(farColumns(), -1, n, n+1, n+2) {
				isAny(t, of(op, col, fits(op, number(10))...), z)
			}
			for col := range n {
				isFormed(t, of(op, col, fits(op, number(10))...), z)
			}
		}
		isAny(t, of(op, 0, fits(op, number(10))...), nil)
		isAny(t, of(op, 0, fits(op, number(10))...), fives()[:0])
		wide := slices.Repeat(fives(), 1000)
		isFormed(t, of(op, 999, fits(op, number(10))...), wide)
		isAny(t, of(op, 1000, fits(op, number(10))...), wide)
	}
	isAny(t, of(api.PIn, 1), fives())
	isAny(t, of(api.PIn, -1), fives())
}

// Of what kind values are isn't asked.
func TestMayOfValuesOfAnotherKind(t *testing.T) {
	values := []api.Value{
		nothing, {N: 1}, {S: "a"}, {Kind: api.KInt, N: 10, S: "a"}, {Kind: api.KInt, S: beyond}, text("a"), tooLong(), {Kind: api.KText, N: 1}, {Kind: api.KText, N: 1, S: beyond}, {Kind: 3, S: beyond},
	}
	for _, kind := range noKinds() {
		values = append(values, api.Value{Kind: kind}, api.Value{Kind: kind, N: 7}, api.Value{Kind: kind, S: "a"})
	}
	texts := []api.Zone{span(0, text("l"), text("lo"))}
	for _, v := range values {
		for _, op := range append(holding(), api.PIn, api.PBetween) {
			isFormed(t, of(op, 0, fits(op, v)...), fives())
			isFormed(t, of(op, 0, fits(op, v)...), []api.Zone{span(0, api.Value{Kind: 3}, api.Value{Kind: 3})})
			p := of(op, 0, fits(op, v)...)
			wantMay(t, p, rows, texts, mayBe(p, rows, texts))
			wantMay(t, or(not(p), p), rows, texts, mayBe(or(not(p), p), rows, texts))
		}
	}
	wantMay(t, of(api.PEq, 0, tooLong()), rows, texts, read("F"))
	wantMay(t, of(api.PEq, 0, tooLong()), rows, []api.Zone{span(0, text("l"), text("lp"))}, read("FT"))
	wantMay(t, of(api.PIn, 0, slices.Repeat([]api.Value{tooLong(), number(5)}, 128)...), rows, []api.Zone{span(2, text("a"), text("b"))}, read("FU"))
}

// How deep it is nested isn't asked.
func TestMayOfHowDeep(t *testing.T) {
	for _, n := range []int{30, 31, 32, 33, 34, 63, 64, 65, 256, 1000} {
		for i, want := range sets() {
			for _, p := range leaves()[i] {
				q := p
				for range n {
					q = not(q)
				}
				if n%2 == 1 {
					want = turned(sets()[i])
				}
				wantMay(t, q, rows, leafZones(), want)
				for _, op := range []int{api.PAnd, api.POr} {
					q = p
					for range n {
						q = joined(op, q)
					}
					wantMay(t, q, rows, leafZones(), sets()[i])
				}
				q = p
				for range n {
					q = or(not(always()), and(always(), q))
				}
				wantMay(t, q, rows, leafZones(), sets()[i])
			}
		}
	}
}

// What is nested deeper than calls may be is told, too.
func TestMayOfAnyDepth(t *testing.T) {
	defer debug.SetMaxStack(debug.SetMaxStack(1 << 20))
	const deep = 1 << 17
	z := leafZones()
	for i, both := range leaves() {
		p, q := both[0], both[1]
		for range deep {
			p, q = not(p), or(and(q, always()), not(always()))
		}
		if may := zone.May(p, rows, z); may != sets()[i] {
			t.Fatalf("%v, not %v", may, sets()[i])
		}
		if may := zone.May(q, rows, z); may != sets()[i] {
			t.Fatalf("%v, not %v", may, sets()[i])
		}
		if is := zone.Refutes(p, rows, z); is == sets()[i][truth] {
			t.Fatalf("%v: refuted is %v", sets()[i], is)
		}
	}
}

func TestMayOfAny(t *testing.T) {
	found := map[[3]bool]int{}
	var h hat
	for i := range 60000 {
		n := 1 + h.below(4)
		var z []api.Zone
		for range 1 + h.below(4) {
			z = append(z, h.zone(n))
		}
		p := h.pred(i%5, len(z), i%2 == 0)
		may := mayBe(p, n, z)
		found[may]++
		wantMay(t, p, n, z, may)
		wantMay(t, p, n, z[:1], mayBe(p, n, z[:1]))
		wantMay(t, p, n-4, z, mayBe(p, n-4, z))
	}
	for _, may := range sets() {
		if found[may] < 200 {
			t.Fatalf("%v: %d", may, found[may])
		}
	}
}

// Not of p turns p's truths, and not of both is one that isn't.
func TestMayOfNotNot(t *testing.T) {
	var h hat
	for i := range 10000 {
		n := 1 + h.below(4)
		z := []api.Zone{h.zone(n), h.zone(n), h.zone(n)}
		p, q := h.pred(i%3, 3, i%2 == 0), h.pred(i%4, 3, i%5 == 0)
		if a, b := zone.May(not(not(p)), n, z), zone.May(p, n, z); a != b {
			t.Fatalf("%s: %v, twice not %v", shown(p), b, a)
		}
		if a, b := zone.May(not(and(p, q)), n, z), zone.May(or(not(p), not(q)), n, z); a != b {
			t.Fatalf("%s, %s: %v and %v", shown(p), shown(q), a, b)
		}
		if a, b := zone.May(and(p, q), n, z), zone.May(and(q, p), n, z); a != b {
			t.Fatalf("%s, %s: %v and %v", shown(p), shown(q), a, b)
		}
	}
}
