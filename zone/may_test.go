package zone_test

import (
	"math"
	"slices"
	"testing"

	"estreat/api"
	"estreat/zone"
)

// The document's example.

func TestExample(t *testing.T) {
	z := []api.Zone{zone.Of([]api.Value{number(7), number(5), number(9)})}
	if !zone.Refutes(of(api.PLt, 0, number(5)), 3, z) {
		t.Fatal("5 to 9 don't refute below 5")
	}
	wantMay(t, of(api.PLt, 0, number(5)), 3, z, read("F"))
}

// P17.1: May and Refutes

const rows = 8

// eachNulls looks for the truths of a predicate of the column 0 whose values that are
// something are from one to the other: without nothing among them, and with; of
// another column, too, and of nothing only, and of neither.
func eachNulls(t *testing.T, p api.Pred, least, greatest api.Value, want [3]bool) {
	t.Helper()
	wantMay(t, p, rows, []api.Zone{span(0, least, greatest)}, want)
	with := want
	with[unknown] = true
	for _, nulls := range []int{1, 2, rows - 1} {
		wantMay(t, p, rows, []api.Zone{span(nulls, least, greatest)}, with)
	}
	wantMay(t, p, 1, []api.Zone{span(0, least, greatest), only(rows)}, want)
	for _, nulls := range []int{1, 2, rows} {
		wantMay(t, p, rows, []api.Zone{only(nulls)}, read("U"))
	}
	wantMay(t, p, rows, []api.Zone{only(0)}, read(""))
	wantMay(t, p, rows, []api.Zone{only(-1)}, read(""))
	// Without Some what ends a zone has don't count.
	wantMay(t, p, rows, []api.Zone{{Nulls: 3, Min: least, Max: greatest}}, read("U"))
	wantMay(t, p, rows, []api.Zone{{Min: least, Max: greatest}}, read(""))
	p.Col = 2
	other := span(1, number(math.MinInt64), text("zz"))
	wantMay(t, p, rows, []api.Zone{other, other, span(0, least, greatest), other}, want)
	wantMay(t, p, rows, []api.Zone{other, only(rows), span(3, least, greatest)}, with)
	wantMay(t, not(p), rows, []api.Zone{other, other, span(0, least, greatest), other}, [3]bool{want[2], want[1], want[0]})
}

// wantHeld looks for the truths of each operator that holds a value against v.
func wantHeld(t *testing.T, least, greatest, v api.Value, eq, ne, lt, le, gt, ge string) {
	t.Helper()
	for i, word := range []string{eq, ne, lt, le, gt, ge} {
		eachNulls(t, of(holding()[i], 0, v), least, greatest, read(word))
	}
}

func TestMayOfTwoEnds(t *testing.T) {
	for _, x := range []struct{ ahead, least, within, greatest, behind api.Value }{
		{number(4), number(5), number(7), number(9), number(10)},
		{number(-10), number(-9), number(-8), number(3), number(4)},
		{nothing, number(math.MinInt64), number(0), number(math.MaxInt64), text("")},
		{number(math.MinInt64), number(math.MinInt64 + 1), number(-1), number(math.MaxInt64 - 1), number(math.MaxInt64)},
		{number(math.MaxInt64), text(""), text("\x00"), text("a"), text("a\x00")},
		{text("a"), text("ab"), text("abc"), text("b"), text("ba")},
		{text(""), text("\x00"), text("\x00\x00"), text("\xff"), text("\xff\x00")},
		{text(long(api.MaxText)[:9]), text(long(api.MaxText)[:10]), text(long(api.MaxText)), tooLong(), api.Value{Kind: 3}},
		{api.Value{Kind: math.MinInt}, api.Value{Kind: -1}, number(0), text("a"), api.Value{Kind: math.MaxInt}},
	} {
		wantHeld(t, x.least, x.greatest, x.ahead, "F", "T", "F", "F", "T", "T")
		wantHeld(t, x.least, x.greatest, x.least, "FT", "FT", "F", "FT", "FT", "T")
		wantHeld(t, x.least, x.greatest, x.within, "FT", "FT", "FT", "FT", "FT", "FT")
		wantHeld(t, x.least, x.greatest, x.greatest, "FT", "FT", "FT", "T", "F", "FT")
		wantHeld(t, x.least, x.greatest, x.behind, "F", "T", "T", "T", "F", "F")
	}
}

func TestMayOfOneEnd(t *testing.T) {
	for _, x := range []struct{ ahead, v, behind api.Value }{
		{number(4), number(5), number(6)}, {nothing, number(math.MinInt64), number(math.MinInt64 + 1)}, {number(math.MaxInt64 - 1), number(math.MaxInt64), text("")},
		{number(math.MaxInt64), text(""), text("\x00")}, {text("a"), text("ab"), text("ab\x00")}, {text("zz"), api.Value{Kind: 3}, api.Value{Kind: 4}}, {api.Value{Kind: -2}, api.Value{Kind: -1}, nothing},
		{text(long(api.MaxText)), tooLong(), text("m")},
	} {
		wantHeld(t, x.v, x.v, x.ahead, "F", "T", "F", "F", "T", "T")
		wantHeld(t, x.v, x.v, x.v, "T", "F", "F", "T", "F", "T")
		wantHeld(t, x.v, x.v, x.behind, "F", "T", "T", "T", "F", "F")
	}
	// What a value's kind doesn't have isn't held against anything.
	odd := api.Value{Kind: api.KInt, N: 5, S: "a"}
	wantHeld(t, odd, number(5), api.Value{Kind: api.KInt, N: 5, S: "b"}, "T", "F", "F", "T", "F", "T")
	wantHeld(t, api.Value{Kind: 3, N: 1}, api.Value{Kind: 3, N: 9}, api.Value{Kind: 3, S: "b"}, "T", "F", "F", "T", "F", "T")
	eachNulls(t, of(api.PIn, 0, odd), number(5), odd, read("T"))
	eachNulls(t, of(api.PBetween, 0, odd, odd), number(5), odd, read("T"))
}

// Of a zone whose Min is behind its Max the table holds as it stands.
func TestMayOfTurnedEnds(t *testing.T) {
	wantHeld(t, number(9), number(5), number(4), "F", "T", "F", "F", "T", "T")
	wantHeld(t, number(9), number(5), number(5), "F", "T", "F", "", "", "T")
	wantHeld(t, number(9), number(5), number(7), "F", "T", "", "", "", "")
	wantHeld(t, number(9), number(5), number(9), "F", "T", "", "T", "F", "")
	wantHeld(t, number(9), number(5), number(10), "F", "T", "T", "T", "F", "F")
	eachNulls(t, of(api.PIn, 0, number(5), number(7), number(9)), number(9), number(5), read("F"))
	eachNulls(t, of(api.PBetween, 0, number(5), number(9)), number(9), number(5), read("T"))
	eachNulls(t, of(api.PBetween, 0, number(6), number(8)), number(9), number(5), read(""))
}

func TestMayOfIn(t *testing.T) {
	l := func(of ...int64) []api.Value {
		var l []api.Value
		for _, n := range of {
			l = append(l, number(n))
		}
		return l
	}
	for _, x := range []struct {
		l    []api.Value
		want string
	}{
		{nil, "F"}, {[]api.Value{}, "F"}, {l(4), "F"}, {l(5), "FT"}, {l(7), "FT"}, {l(9), "FT"}, {l(10), "F"},
		{l(4, 10), "F"}, {l(10, 4), "F"}, {l(4, 7), "FT"}, {l(7, 4), "FT"}, {l(10, 7), "FT"}, {l(7, 10), "FT"}, {l(4, 10, 9), "FT"}, {l(4, 5, 10), "FT"},
		{l(5, 9), "FT"}, {l(5, 6, 7, 8, 9), "FT"}, {l(4, 4, 4), "F"}, {l(7, 7), "FT"}, {[]api.Value{nothing, text("7")}, "F"}, {[]api.Value{nothing, text("7"), number(7)}, "FT"},
		{[]api.Value{{Kind: 3}, {Kind: -1}}, "F"}, {slices.Repeat(l(4, 10), 128), "F"}, {append(slices.Repeat(l(4), 255), number(9)), "FT"},
	} {
		eachNulls(t, of(api.PIn, 0, x.l...), number(5), number(9), read(x.want))
	}
	for _, x := range []struct {
		l    []api.Value
		want string
	}{
		{nil, "F"}, {l(4), "F"}, {l(5), "T"}, {l(6), "F"}, {l(4, 6), "F"}, {l(4, 5), "T"}, {l(5, 6), "T"}, {l(6, 4, 5), "T"}, {l(5, 5), "T"}, {[]api.Value{nothing, text("5")}, "F"},
		{append(slices.Repeat(l(4, 6), 127), l(5, 4)...), "T"}, {slices.Repeat(l(4, 6), 128), "F"},
	} {
		eachNulls(t, of(api.PIn, 0, x.l...), number(5), number(5), read(x.want))
	}
	eachNulls(t, of(api.PIn, 0, text("a"), text("abc")), text("ab"), text("b"), read("FT"))
	eachNulls(t, of(api.PIn, 0, text("a"), text("")), text("ab"), text("b"), read("F"))
	eachNulls(t, of(api.PIn, 0, text("a"), text("")), text(""), text(""), read("T"))
	eachNulls(t, of(api.PIn, 0, text("a")), text(""), text(""), read("F"))
	eachNulls(t, of(api.PIn, 0, number(math.MinInt64)), number(math.MinInt64), number(math.MaxInt64), read("FT"))
	eachNulls(t, of(api.PIn, 0, number(math.MaxInt64)), number(math.MinInt64), number(math.MaxInt64), read("FT"))
}

func TestMayOfBetween(t *testing.T) {
	for _, x := range []struct {
		a, b int64
		want string
	}{
		// Around both, and at both ends.
		{4, 10, "T"}, {5, 9, "T"}, {4, 9, "T"}, {5, 10, "T"}, {math.MinInt64, math.MaxInt64, "T"},
		// Within.
		{6, 8, "FT"}, {7, 7, "FT"}, {5, 5, "FT"}, {9, 9, "FT"}, {5, 8, "FT"}, {6, 9, "FT"}, {4, 8, "FT"}, {6, 10, "FT"}, {4, 5, "FT"}, {9, 10, "FT"}, {math.MinInt64, 5, "FT"}, {9, math.MaxInt64, "FT"},
		// Both ahead, both behind.
		{3, 4, "F"}, {4, 4, "F"}, {10, 12, "F"}, {10, 10, "F"}, {math.MinInt64, 4, "F"}, {10, math.MaxInt64, "F"},
		// The first behind the second.
		{9, 5, "F"}, {10, 4, "F"}, {8, 6, "F"}, {5, 4, "F"}, {10, 9, "F"}, {6, 5, "F"}, {9, 8, "F"}, {4, 3, "F"}, {12, 10, "F"}, {math.MaxInt64, math.MinInt64, "F"},
	} {
		eachNulls(t, of(api.PBetween, 0, number(x.a), number(x.b)), number(5), number(9), read(x.want))
	}
	for _, x := range []struct {
		a, b int64
		want string
	}{
		{5, 5, "T"}, {4, 6, "T"}, {4, 5, "T"}, {5, 6, "T"}, {3, 4, "F"}, {4, 4, "F"}, {6, 6, "F"}, {6, 7, "F"}, {6, 4, "F"}, {6, 5, "F"}, {5, 4, "F"},
	} {
		eachNulls(t, of(api.PBetween, 0, number(x.a), number(x.b)), number(5), number(5), read(x.want))
	}
	eachNulls(t, of(api.PBetween, 0, text("a"), text("ab")), text("ab"), text("b"), read("FT"))
	eachNulls(t, of(api.PBetween, 0, text(""), text("aa")), text("ab"), text("b"), read("F"))
	eachNulls(t, of(api.PBetween, 0, text(""), text("b")), text("ab"), text("b"), read("T"))
	eachNulls(t, of(api.PBetween, 0, text("ba"), text("c")), text("ab"), text("b"), read("F"))
	eachNulls(t, of(api.PBetween, 0, nothing, text("")), number(math.MinInt64), number(math.MaxInt64), read("T"))
	eachNulls(t, of(api.PBetween, 0, nothing, nothing), number(5), number(9), read("F"))
	eachNulls(t, of(api.PBetween, 0, number(7), text("")), number(5), number(9), read("FT"))
	eachNulls(t, of(api.PBetween, 0, text(""), number(7)), number(5), number(9), read("F"))
}

func TestMayOfNull(t *testing.T) {
	for _, n := range []int{1, 2, 8, 65536, math.MaxInt} {
		for _, x := range []struct {
			nulls int
			want  string
		}{{0, "F"}, {n, "T"}, {n / 2, map[bool]string{true: "F", false: "FT"}[n == 1]}, {n - 1, map[bool]string{true: "F", false: "FT"}[n == 1]}, {-1, "F"}, {math.MinInt, "F"}, {math.MaxInt, "T"}} {
			// Others don't count.
			for _, z := range []api.Zone{only(x.nulls), span(x.nulls, number(5), number(9)), span(x.nulls, number(9), text("a")), {Nulls: x.nulls, Min: number(1)}} {
				wantMay(t, of(api.PNull, 0), n, []api.Zone{z}, read(x.want))
				wantMay(t, of(api.PNull, 1), n, []api.Zone{only(n / 2), z, span(1, number(1), number(1))}, read(x.want))
				want := read(x.want)
				wantMay(t, not(of(api.PNull, 0)), n, []api.Zone{z}, [3]bool{want[2], want[1], want[0]})
			}
		}
	}
	wantMay(t, of(api.PNull, 0), 8, []api.Zone{only(9)}, read("T"))
	wantMay(t, of(api.PNull, 0), 8, []api.Zone{only(7)}, read("FT"))
}

func TestMayOfTrue(t *testing.T) {
	for _, z := range [][]api.Zone{nil, {}, {only(0)}, {only(rows)}, {span(1, number(5), number(9)), only(3)}, {span(-9, text("z"), number(9))}} {
		for _, n := range []int{1, 2, rows, math.MaxInt} {
			wantMay(t, always(), n, z, read("T"))
			wantMay(t, not(always()), n, z, read("F"))
		}
	}
}

// Of each set of truths two predicates of which these may be, of these zones.

func leafZones() []api.Zone {
	return []api.Zone{span(1, number(5), number(9)), span(0, number(5), number(9)), only(rows), only(0), span(1, number(5), number(5))}
}

// leaves has at each place predicates of which the truths of sets at that place may be.
func leaves() [8][2]api.Pred {
	return [8][2]api.Pred{
		{of(api.PEq, 3, number(5)), not(of(api.PIn, 3))},
		{not(always()), of(api.PLt, 1, number(5))},
		{of(api.PEq, 2, number(5)), not(of(api.PBetween, 2, number(1), number(2)))},
		{always(), of(api.PGe, 1, number(5))},
		{of(api.PEq, 4, number(6)), of(api.PGt, 0, number(9))},
		{of(api.PNull, 0), of(api.PIn, 1, number(7))},
		{of(api.PNe, 4, number(6)), of(api.PLe, 0, number(9))},
		{of(api.PEq, 0, number(5)), of(99, 0)},
	}
}

// choices is what comes of each choice of one truth of each set.
func choices(join func(a, b int) int, parts ...[3]bool) [3]bool {
	var may [3]bool
	var choose func(sofar int, rest [][3]bool)
	choose = func(sofar int, rest [][3]bool) {
		if len(rest) == 0 {
			may[sofar] = true
			return
		}
		for v, is := range rest[0] {
			if is {
				choose(join(sofar, v), rest[1:])
			}
		}
	}
	for v, is := range parts[0] {
		if is {
			choose(v, parts[1:])
		}
	}
	return may
}

func least(a, b int) int { return min(a, b) }

func greatest(a, b int) int { return max(a, b) }

func turned(m [3]bool) [3]bool { return [3]bool{m[2], m[1], m[0]} }

func TestMayOfLeaves(t *testing.T) {
	for i, l := range leaves() {
		for _, p := range l {
			wantMay(t, p, rows, leafZones(), sets()[i])
		}
	}
}

func TestMayOfOnePart(t *testing.T) {
	for i, want := range sets() {
		for _, p := range leaves()[i] {
			wantMay(t, and(p), rows, leafZones(), want)
			wantMay(t, or(p), rows, leafZones(), want)
			wantMay(t, not(p), rows, leafZones(), turned(want))
			wantMay(t, not(not(p)), rows, leafZones(), want)
			wantMay(t, and(or(not(and(p)))), rows, leafZones(), turned(want))
			for n := range 40 {
				q, m := p, want
				for k := range n {
					q = joined([]int{api.PNot, api.PAnd, api.POr}[k%3], q)
					if k%3 == 0 {
						m = turned(m)
					}
				}
				wantMay(t, q, rows, leafZones(), m)
			}
		}
	}
}

// Each choice of two and of three parts, in each order.
func TestMayOfSeveralParts(t *testing.T) {
	z, l := leafZones(), leaves()
	for i, a := range sets() {
		for j, b := range sets() {
			p, q := l[i][0], l[j][1]
			wantMay(t, and(p, q), rows, z, choices(least, a, b))
			wantMay(t, or(p, q), rows, z, choices(greatest, a, b))
			wantMay(t, not(and(p, q)), rows, z, turned(choices(least, a, b)))
			wantMay(t, and(not(p), or(q)), rows, z, choices(least, turned(a), b))
			for k, c := range sets() {
				r := l[k][(i+j)%2]
				wantMay(t, and(p, q, r), rows, z, choices(least, a, b, c))
				wantMay(t, or(p, q, r), rows, z, choices(greatest, a, b, c))
				wantMay(t, and(p, or(q, r)), rows, z, choices(least, a, choices(greatest, b, c)))
				wantMay(t, or(p, and(q, r)), rows, z, choices(greatest, a, choices(least, b, c)))
				wantMay(t, or(and(p, q), r), rows, z, choices(greatest, choices(least, a, b), c))
				wantMay(t, not(or(not(p), and(q, not(r)), p)), rows, z, turned(choices(greatest, turned(a), choices(least, b, turned(c)), a)))
				wantMay(t, and(or(not(p), q), and(p), or(r, not(q), r)), rows, z, choices(least, choices(greatest, turned(a), b), a, choices(greatest, c, turned(b), c)))
			}
		}
	}
}

func TestMayOfManyParts(t *testing.T) {
	z, l := leafZones(), leaves()
	for _, n := range []int{2, 3, 4, 17, 255, 256} {
		for i, a := range sets() {
			for j, b := range sets() {
				for _, at := range []int{0, n / 2, n - 1} {
					parts := slices.Repeat([]api.Pred{l[i][0]}, n)
					parts[at] = l[j][0]
					wantMay(t, and(parts...), rows, z, choices(least, a, b))
					wantMay(t, or(parts...), rows, z, choices(greatest, a, b))
				}
			}
		}
	}
}

// Of no rows none may be.
func TestMayOfNoRows(t *testing.T) {
	var l []api.Pred
	for _, both := range leaves() {
		l = append(l, both[:]...)
	}
	l = append(l, formed()...)
	for op := range api.PNot + 1 {
		l = append(l, of(op, 7), of(op, -1, number(5)), joined(op), joined(op, always()), joined(op, slices.Repeat([]api.Pred{always()}, 257)...))
	}
	for _, op := range none() {
		l = append(l, of(op, 0))
	}
	l = append(l, slices.Clone(l)...)
	for i, p := range l {
		if i >= len(l)/2 {
			p = or(not(p), always())
		}
		for _, n := range []int{0, -1, -2, -rows, math.MinInt} {
			for _, z := range [][]api.Zone{nil, leafZones(), {only(0)}, {only(n)}} {
				wantMay(t, p, n, z, read(""))
			}
		}
	}
}

// Truths that may be are compared as an array.
func TestMayIsCompared(t *testing.T) {
	z := leafZones()
	found := map[[3]bool]int{}
	for i, both := range leaves() {
		if zone.May(both[0], rows, z) != zone.May(both[1], rows, z) {
			t.Fatalf("%s: %v, but %s: %v", shown(both[0]), zone.May(both[0], rows, z), shown(both[1]), zone.May(both[1], rows, z))
		}
		found[zone.May(both[i%2], rows, z)] = i
	}
	for i, may := range sets() {
		if at, ok := found[may]; !ok || at != i {
			t.Fatalf("%v at %d, not %d", may, at, i)
		}
	}
	if may := zone.May(of(api.PEq, 0, number(5)), rows, z); may != [3]bool{api.False: true, api.Unknown: true, api.True: true} {
		t.Fatalf("%v", may)
	}
	if may := zone.May(of(api.PLe, 0, number(9)), rows, z); may != [...]bool{api.False: false, api.Unknown: true, api.True: true} {
		t.Fatalf("%v", may)
	}
}
