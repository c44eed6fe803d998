package zone_test

import (
	"slices"
	"testing"

	"estreat/api"
	"estreat/pred"
	"estreat/zone"
)

// zonesOf is the zone of each column of rows.
func zonesOf(rows [][]api.Value, columns int) []api.Zone {
	var z []api.Zone
	for c := range columns {
		var l []api.Value
		for _, row := range rows {
			l = append(l, row[c])
		}
		z = append(z, zone.Of(l))
	}
	return z
}

// table is any rows of so many columns, of numbers and of texts by turns; of wild ones
// some values are of another kind.
func (h *hat) table(n, columns int, wild bool) [][]api.Value {
	l := make([][]api.Value, n)
	for c := range columns {
		for i, v := range h.columnOf(1+c%2, n) {
			if wild && h.below(5) == 0 {
				v = []api.Value{h.value(), h.odd()}[h.below(2)]
			}
			l[i] = append(l[i], v)
		}
	}
	return l
}

// wantOfRows looks whether each row's truth may be, and whether none is true where it
// is refuted.
func wantOfRows(t *testing.T, p api.Pred, l [][]api.Value, z []api.Zone) (refuted bool) {
	t.Helper()
	may := zone.May(p, len(l), z)
	refuted = zone.Refutes(p, len(l), z)
	for _, row := range l {
		v := pred.Eval(p, row)
		if !may[v] {
			t.Fatalf("%s of %s is %d: may be %v of %s", shown(p), shown(row), v, may, shown(z))
		}
		if refuted && v == truth {
			t.Fatalf("%s of %s is true, but refuted by %s", shown(p), shown(row), shown(z))
		}
	}
	return refuted
}

// P17.2

func TestTruthsOfRowsMayBe(t *testing.T) {
	refuted, few := 0, 0
	var h hat
	for i := range 30000 {
		n, columns := 1+h.below(5), 1+h.below(4)
		l := h.table(n, columns, i%3 == 0)
		z := zonesOf(l, columns)
		for deep := range 4 {
			p := h.pred(deep, columns, i%2 == 0)
			if wantOfRows(t, p, l, z) {
				refuted++
			}
			if zone.May(p, n, z) != read("FUT") {
				few++
			}
		}
	}
	if refuted < 20000 || few < 60000 {
		t.Fatalf("%d refuted, of %d not all may be", refuted, few)
	}
}

// Each operator against each few values.
func TestTruthsOfFewValuesMayBe(t *testing.T) {
	few := []api.Value{nothing, number(4), number(5), number(6), text(""), text("a")}
	var columns [][]api.Value
	for i, a := range few {
		columns = append(columns, []api.Value{a})
		for j, b := range few[:i+1] {
			columns = append(columns, []api.Value{a, b})
			for _, c := range few[:j+1] {
				columns = append(columns, []api.Value{a, b, c})
			}
		}
	}
	preds := []api.Pred{of(api.PNull, 0), always(), of(api.PIn, 0)}
	for _, v := range few {
		for _, op := range holding() {
			preds = append(preds, of(op, 0, v))
		}
		for _, w := range few {
			preds = append(preds, of(api.PIn, 0, v, w), of(api.PBetween, 0, v, w))
		}
	}
	for _, l := range columns {
		var rows [][]api.Value
		for _, v := range l {
			rows = append(rows, []api.Value{v})
		}
		z := zonesOf(rows, 1)
		for i, p := range preds {
			wantOfRows(t, p, rows, z)
			wantOfRows(t, not(p), rows, z)
			wantMay(t, p, len(rows), z, mayBe(p, len(rows), z))
			q := preds[(i*7+3)%len(preds)]
			wantOfRows(t, and(p, not(q)), rows, z)
			wantOfRows(t, or(not(p), q), rows, z)
		}
	}
}

// Some rows of those whose zones there are have no other truths.
func TestTruthsOfSomeOfTheRowsMayBe(t *testing.T) {
	var h hat
	for i := range 5000 {
		columns := 1 + h.below(3)
		l := h.table(2+h.below(5), columns, false)
		z := zonesOf(l, columns)
		p := h.pred(i%4, columns, false)
		may := zone.May(p, len(l), z)
		for _, row := range l[:1+h.below(len(l))] {
			if !may[pred.Eval(p, row)] {
				t.Fatalf("%s of %s", shown(p), shown(row))
			}
		}
	}
}

// R4 and R7: memory, and one answer

func TestWhatIsHandedInStays(t *testing.T) {
	var h hat
	for i := range 3000 {
		seed, n := h, 1+i%4
		draw := func(h *hat) (api.Pred, []api.Zone) {
			return h.pred(1+i%4, 3, i%2 == 0), []api.Zone{h.zone(n), h.zone(n), h.zone(n), h.zone(n)}
		}
		p, z := draw(&h)
		may, refuted := zone.May(p, n, z[:3]), zone.Refutes(p, n, z[:3])
		for _, c := range z {
			zone.Sound(c, n, api.KInt)
		}
		wantP, wantZ := draw(&seed)
		if !samePred(p, wantP) || !slices.Equal(z, wantZ) {
			t.Fatalf("%s of %s: changed", shown(wantP), shown(wantZ))
		}
		if may != zone.May(wantP, n, wantZ[:3]) || refuted != zone.Refutes(wantP, n, wantZ[:3]) {
			t.Fatalf("%s of %s: answers another time otherwise", shown(p), shown(z))
		}
		// What is answered may be written over.
		other := zone.May(p, n, z[:3])
		for v := range other {
			other[v] = !other[v]
		}
		if may != zone.May(p, n, z[:3]) {
			t.Fatalf("%s of %s: shared", shown(p), shown(z))
		}
	}
}

// What lies behind a list's length is neither read nor written.
func TestWhatLiesBehindStays(t *testing.T) {
	values := []api.Value{number(10), number(7), number(7)}
	parts := []api.Pred{of(api.PIn, 0), of(api.PTrue, 0), of(api.PTrue, 0)}
	parts[0].Vals = values[:1]
	z := []api.Zone{span(0, number(5), number(9)), span(0, number(1), number(2)), only(3)}
	p := api.Pred{Op: api.POr, Of: parts[:1]}
	wantMay(t, p, rows, z[:1], read("F"))
	parts[0].Col = 1
	wantMay(t, p, rows, z[:1], read("FUT"))
	wantMay(t, p, rows, z[:2], read("F"))
	if !slices.Equal(values, []api.Value{number(10), number(7), number(7)}) || len(parts[0].Vals) != 1 || !samePred(parts[1], always()) || !samePred(parts[2], always()) || z[1] != span(0, number(1), number(2)) || z[2] != only(3) {
		t.Fatalf("%s, %s, %s: written behind", shown(values), shown(parts), shown(z))
	}
}
