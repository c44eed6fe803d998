package group_test

import (
	"math"
	"slices"
	"testing"

	"estreat/api"
	"estreat/group"
)

func TestExample(t *testing.T) {
	g := made(t, one(), numbers(5))
	if z := g.Header().Cols[0].Zone; z != (api.Zone{Some: true, Min: number(5), Max: number(5)}) {
		t.Fatal(z)
	}
	if !g.Kill(0) || g.Header().Live != 0 || g.Live() != 0 {
		t.Fatal(g.Header())
	}
}

// P18.1: New

func TestNewOfOneRow(t *testing.T) {
	wantGroup(t, made(t, one(), numbers(5)), one(), numbers(5))
	wantGroup(t, made(t, one(), numbers(math.MinInt64)), one(), numbers(math.MinInt64))
	s := []api.Column{textsNull(api.Texts)}
	for _, v := range []api.Value{nothing, text(""), text("a"), text(long(api.MaxText))} {
		wantGroup(t, made(t, s, column(v)), s, column(v))
	}
}

func TestNewOfSeveralRows(t *testing.T) {
	s := []api.Column{intsNull(api.Plain), texts(api.Auto), ints(api.Delta)}
	rows := [][]api.Value{
		{number(3), text("b"), number(10)},
		{nothing, text("a"), number(11)},
		{number(-1), text(""), number(13)},
		{nothing, text("c"), number(13)},
		{number(2), text("b"), number(-7)},
	}
	g := made(t, s, rows)
	wantGroup(t, g, s, rows)
	zones := []api.Zone{
		{Nulls: 2, Some: true, Min: number(-1), Max: number(3)},
		{Some: true, Min: text(""), Max: text("c")},
		{Some: true, Min: number(-7), Max: number(13)},
	}
	for c, z := range zones {
		if got := g.Header().Cols[c].Zone; got != z {
			t.Errorf("column %d: %v, want %v", c, got, z)
		}
	}
	if b := g.Dead(); !slices.Equal(b, []byte{0}) {
		t.Errorf("dead %x", b)
	}
	if b := g.Chunk(0); !slices.Equal(b, []byte{1, 0x0a, 0, 6, 1, 4}) {
		t.Errorf("chunk %x", b)
	}
}

func TestNewOfEachKindAndWay(t *testing.T) {
	s := every()
	for n := 1; n <= 20; n++ {
		h := hat(n * 1000)
		rows := h.rows(s, n)
		wantGroup(t, made(t, s, rows), s, rows)
	}
	for i, c := range s {
		way := made(t, []api.Column{c}, column([]api.Value{{}, number(1), text("a")}[c.Kind])).Chunk(0)[1]
		if c.Way != api.Auto && int(way) != c.Way {
			t.Errorf("column %d is laid in way %d", i, way)
		}
	}
}

func TestNewOfNothing(t *testing.T) {
	s := []api.Column{intsNull(api.Auto), textsNull(api.Auto)}
	rows := [][]api.Value{{nothing, nothing}, {nothing, nothing}, {nothing, nothing}}
	g := made(t, s, rows)
	wantGroup(t, g, s, rows)
	for _, c := range g.Header().Cols {
		if c.Zone != (api.Zone{Nulls: 3}) {
			t.Error(c.Zone)
		}
	}
}

func TestNewOfManyColumns(t *testing.T) {
	s := slices.Repeat(one(), api.MaxCols)
	row := make([]api.Value, api.MaxCols)
	for i := range row {
		row[i] = number(int64(i))
	}
	wantGroup(t, made(t, s, [][]api.Value{row, row}), s, [][]api.Value{row, row})
}

func TestNewOfManyRows(t *testing.T) {
	rows := make([][]api.Value, api.MaxRows+1)
	for i := range rows {
		rows[i] = []api.Value{number(int64(i) * 3)}
	}
	wantNew(t, one(), rows, api.ErrLimit)
	g := made(t, one(), rows[:api.MaxRows], 0, api.MaxRows-1)
	wantGroup(t, g, one(), rows[:api.MaxRows], 0, api.MaxRows-1)
	if h := g.Header(); h.Rows != api.MaxRows || h.Live != api.MaxRows-2 || len(g.Dead()) != api.MaxRows/8 {
		t.Fatal(h.Rows, h.Live, len(g.Dead()))
	}
}

// wantNew looks whether New refuses the rows with that error.
func wantNew(t *testing.T, s []api.Column, rows [][]api.Value, want api.Errno) {
	t.Helper()
	g, e := group.New(s, rows)
	if e != want || g != nil {
		t.Errorf("New of %d columns and %d rows: %v, group %v, want %v", len(s), len(rows), e, g != nil, want)
	}
}

func TestNewOfNoRows(t *testing.T) {
	wantNew(t, one(), nil, api.ErrLimit)
	wantNew(t, one(), [][]api.Value{}, api.ErrLimit)
}

// wrongSchemas is schemas that aren't right, with Schema's error.
func wrongSchemas() map[api.Errno][][]api.Column {
	return map[api.Errno][][]api.Column{
		api.ErrLimit: {nil, {}, slices.Repeat(one(), api.MaxCols+1)},
		api.ErrKind: {
			{{Kind: api.KNull, Way: api.Auto}}, {{Kind: 3, Way: api.Auto}}, {{Kind: -1, Way: api.Auto}}, {{Kind: 257, Way: api.Auto}}, {{}},
			{ints(api.Auto), {Kind: 3}}, {ints(9), {Kind: 3}},
		},
		api.ErrArg: {
			{ints(-2)}, {ints(api.Texts)}, {ints(6)}, {ints(255)}, {ints(math.MaxInt)}, {ints(math.MinInt)}, {texts(api.Plain)}, {texts(api.Fore)}, {texts(6)},
			{ints(api.Auto), texts(api.Dict)},
		},
	}
}

func TestNewOfWrongSchemas(t *testing.T) {
	for want, l := range wrongSchemas() {
		for _, s := range l {
			var row []api.Value
			for _, c := range s {
				row = append(row, api.Value{Kind: c.Kind})
			}
			wantNew(t, s, [][]api.Value{row}, want)
			wantNew(t, s, [][]api.Value{row, row}, want)
			// Ahead of too few and too many rows, and of what is wrong with a row.
			wantNew(t, s, nil, want)
			wantNew(t, s, make([][]api.Value, api.MaxRows+1), want)
			wantNew(t, s, [][]api.Value{append(row, nothing)}, want)
		}
	}
}

// wrongRows is rows that aren't right for the schema of wrongRowsSchema, with Row's
// error.
func wrongRows() map[api.Errno][][]api.Value {
	a, n, beyond := text("a"), number(1), text(long(api.MaxText+1))
	return map[api.Errno][][]api.Value{
		api.ErrArg: {nil, {}, {n}, {n, a}, {n, a, n, n}, {a, a}, {nothing}, {beyond, beyond}},
		api.ErrKind: {
			{nothing, a, n}, {a, a, n}, {n, n, n}, {n, nothing, n}, {n, a, a}, {n, a, {N: 1}}, {n, a, {S: "a"}}, {{Kind: api.KInt, S: "a"}, a, n}, {n, {Kind: api.KText, N: 1}, n},
			{{Kind: 3}, a, n}, {n, {Kind: -1}, n}, {n, a, {Kind: 257}}, {nothing, beyond, n},
		},
		api.ErrLimit: {{n, beyond, n}, {n, beyond, a}, {n, beyond, nothing}},
	}
}

func wrongRowsSchema() []api.Column {
	return []api.Column{ints(api.Auto), texts(api.Auto), intsNull(api.Auto)}
}

func TestNewOfWrongRows(t *testing.T) {
	s := wrongRowsSchema()
	right := []api.Value{number(1), text("a"), nothing}
	for want, l := range wrongRows() {
		for _, row := range l {
			wantNew(t, s, [][]api.Value{row}, want)
			wantNew(t, s, [][]api.Value{row, right}, want)
			wantNew(t, s, [][]api.Value{right, row, right}, want)
			wantNew(t, s, [][]api.Value{right, right, row}, want)
			wantNew(t, s, append(slices.Repeat([][]api.Value{right}, api.MaxRows-1), row), want)
			// Behind too many rows.
			wantNew(t, s, append(slices.Repeat([][]api.Value{right}, api.MaxRows), row), api.ErrLimit)
			wantNew(t, s, append([][]api.Value{row}, slices.Repeat([][]api.Value{right}, api.MaxRows)...), api.ErrLimit)
		}
	}
}

// Rows go ahead of columns: what is wrong in a later column of an earlier row is told.
func TestNewTellsTheFirstWrongRow(t *testing.T) {
	s := wrongRowsSchema()
	for first, l := range wrongRows() {
		for _, row := range l {
			for _, m := range wrongRows() {
				for _, later := range m {
					wantNew(t, s, [][]api.Value{row, later}, first)
				}
			}
		}
	}
}

// P18.1: Len, Live, Row, Alive, Kill, Header, Dead, Chunk, Copy

func TestKill(t *testing.T) {
	g := made(t, one(), numbers(4, 5, 6))
	wantGroup(t, g, one(), numbers(4, 5, 6))
	for _, i := range farFrom(3) {
		if g.Kill(i) {
			t.Errorf("%d is killed", i)
		}
	}
	wantGroup(t, g, one(), numbers(4, 5, 6))
	if !g.Kill(1) {
		t.Error("1 isn't killed")
	}
	wantGroup(t, g, one(), numbers(4, 5, 6), 1)
	if g.Kill(1) || g.Kill(3) || g.Kill(-1) {
		t.Error("killed again, or beyond")
	}
	wantGroup(t, g, one(), numbers(4, 5, 6), 1)
	if !g.Kill(2) || !g.Kill(0) || g.Kill(0) || g.Kill(2) {
		t.Error("0 and 2")
	}
	wantGroup(t, g, one(), numbers(4, 5, 6), 0, 1, 2)
	if z := g.Header().Cols[0].Zone; z != (api.Zone{Some: true, Min: number(4), Max: number(6)}) {
		t.Error("dead rows count for the zone, too", z)
	}
}

// Nowhere beyond the rows is a row, also where the last byte of the set has bits left.
func TestKillAroundBytes(t *testing.T) {
	for _, n := range []int{1, 7, 8, 9, 15, 16, 17, 63, 64, 65} {
		h := hat(n)
		rows := h.rows(one(), n)
		g := made(t, one(), rows)
		for i := -20; i < n+20; i++ {
			if g.Kill(i) != (i >= 0 && i < n) {
				t.Errorf("%d of %d", i, n)
			}
		}
		wantGroup(t, g, one(), rows, upTo(n)...)
	}
}

func TestKillInSeveralOrders(t *testing.T) {
	s := []api.Column{intsNull(api.Auto), texts(api.Auto)}
	h := hat(7)
	rows := h.rows(s, 30)
	dead := []int{0, 3, 7, 8, 9, 15, 16, 29}
	want := partsOf(t, s, rows, dead...)
	for range 20 {
		for i := range dead {
			j := h.below(i + 1)
			dead[i], dead[j] = dead[j], dead[i]
		}
		g := made(t, s, rows, dead...)
		if got := told(s, g); !sameHeader(got.header, want.header) || !slices.Equal(got.dead, want.dead) {
			t.Fatalf("%v: %v, want %v", dead, got.header, want.header)
		}
	}
}

func TestHeaderBehindEachKill(t *testing.T) {
	s := []api.Column{intsNull(api.Runs), textsNull(api.Texts), ints(api.Dict)}
	h := hat(99)
	rows := h.rows(s, 40)
	g := made(t, s, rows)
	var dead []int
	for range 60 {
		i := h.below(40)
		isDead := slices.Contains(dead, i)
		if g.Kill(i) == isDead {
			t.Fatal(i, dead)
		}
		if !isDead {
			dead = append(dead, i)
		}
		wantGroup(t, g, s, rows, dead...)
	}
}

func TestCopy(t *testing.T) {
	s := []api.Column{ints(api.Auto), textsNull(api.Auto)}
	h := hat(5)
	rows := h.rows(s, 12)
	g := made(t, s, rows, 2, 9)
	c := g.Copy()
	wantGroup(t, c, s, rows, 2, 9)
	if !c.Kill(3) || !g.Kill(4) || !g.Kill(11) {
		t.Fatal("not killed")
	}
	wantGroup(t, c, s, rows, 2, 9, 3)
	wantGroup(t, g, s, rows, 2, 9, 4, 11)
	d := c.Copy().Copy()
	if d.Kill(3) || !d.Kill(4) {
		t.Fatal("copy of a copy")
	}
	wantGroup(t, d, s, rows, 2, 9, 3, 4)
	wantGroup(t, c, s, rows, 2, 9, 3)
}

func TestNilGroup(t *testing.T) {
	var g *group.Group
	if g.Len() != 0 || g.Live() != 0 || g.Copy() != nil || g.Dead() != nil || !isZero(g.Header()) {
		t.Error(g.Len(), g.Live(), g.Copy(), g.Dead(), g.Header())
	}
	for _, i := range append(farFrom(1), 0, 1, 2) {
		if g.Row(i) != nil || g.Alive(i) || g.Kill(i) || g.Chunk(i) != nil {
			t.Error(i)
		}
	}
}

// P18.1, of any rows

func TestNewOfAnyRows(t *testing.T) {
	for i := range 300 {
		h := hat(i * 5000)
		s := h.schema()
		rows := h.rows(s, 1+h.below(40))
		dead := h.places(len(rows))
		g := made(t, s, rows, dead...)
		wantGroup(t, g, s, rows, dead...)
		wantGroup(t, g.Copy(), s, rows, dead...)
	}
}
