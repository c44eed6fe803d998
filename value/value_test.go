package value_test

import (
	"math"
	"slices"
	"strings"
	"testing"

	"estreat/api"
	"estreat/value"
)

func wantCmp(t *testing.T, a, b api.Value, want int) {
	t.Helper()
	if c := value.Cmp(a, b); c != want {
		t.Fatalf("%.40v against %.40v: %d, not %d", a, b, c, want)
	}
	if c := value.Cmp(b, a); c != -want {
		t.Fatalf("%.40v against %.40v: %d, not %d", b, a, c, -want)
	}
}

// The document's example.

func TestExample(t *testing.T) {
	wantCmp(t, nothing, number(-5), -1)
	wantCmp(t, number(-5), text(""), -1)
}

// P15.1: Cmp

func TestCmpKinds(t *testing.T) {
	kinds := append(oddNumbers(), api.KNull, api.KInt, api.KText, -1, 3, 4, 5)
	slices.Sort(kinds)
	// What the values have besides tells otherwise than their kinds.
	of := func(kind, i int) []api.Value {
		return []api.Value{{Kind: kind}, {Kind: kind, N: int64(-i)}, {Kind: kind, N: math.MinInt64}, {Kind: kind, S: strings.Repeat("z", 99-i)}, {Kind: kind, N: int64(9 - i), S: "z"}}
	}
	for i, ka := range kinds {
		for j, kb := range kinds {
			if ka == kb {
				continue
			}
			want := -1
			if i > j {
				want = 1
			}
			for _, a := range of(ka, i) {
				for _, b := range of(kb, j) {
					wantCmp(t, a, b, want)
				}
			}
		}
	}
}

func TestCmpNumbers(t *testing.T) {
	for i, a := range edges() {
		for j, b := range edges() {
			want := 0
			if i < j {
				want = -1
			}
			if i > j {
				want = 1
			}
			wantCmp(t, number(a), number(b), want)
		}
	}
	wantCmp(t, number(math.MinInt64), number(math.MaxInt64), -1)
	wantCmp(t, number(math.MinInt64), number(1), -1)
	wantCmp(t, number(math.MaxInt64), number(-1), 1)
	wantCmp(t, number(math.MaxInt64), number(math.MaxInt64-1), 1)
	wantCmp(t, number(math.MinInt64), number(math.MinInt64), 0)
	wantCmp(t, number(1<<53), number(1<<53+1), -1)
	wantCmp(t, number(-1), number(0), -1)
}

// byBytes orders texts by the words of the document.
func byBytes(a, b string) int {
	for i := 0; ; i++ {
		switch {
		case i == len(a) && i == len(b):
			return 0
		case i == len(a):
			return -1
		case i == len(b):
			return 1
		case a[i] < b[i]:
			return -1
		case a[i] > b[i]:
			return 1
		}
	}
}

func TestCmpTexts(t *testing.T) {
	words := wordsOf()
	for _, n := range []int{7, 8, 9, 16, 17, 300} {
		words = append(words, long(n), long(n)+"\x00", long(n)[:n-1], "z"+long(n))
	}
	for _, a := range words {
		for _, b := range words {
			wantCmp(t, text(a), text(strings.Clone(b)), byBytes(a, b))
		}
	}
	for i := range 256 {
		for j := range 256 {
			a, b := string([]byte{'x', byte(i)}), string([]byte{'x', byte(j), 0})
			wantCmp(t, text(a), text(b), byBytes(a, b))
		}
	}
	wantCmp(t, text(""), text(""), 0)
	wantCmp(t, text(""), text("\x00"), -1)
	wantCmp(t, text("ab"), text("abc"), -1)
	wantCmp(t, text("b"), text("abc"), 1)
	wantCmp(t, text("\x7f"), text("\x80"), -1)
	wantCmp(t, text("Z"), text("a"), -1)
	wantCmp(t, text("10"), text("9"), -1)
	wantCmp(t, text(long(api.MaxText)), text(long(api.MaxText)), 0)
	wantCmp(t, text(long(api.MaxText)), text(long(api.MaxText)+"\x00"), -1)
}

func TestCmpOfWhatAKindDoesntHave(t *testing.T) {
	for _, n := range []int64{-1, 1, math.MinInt64, math.MaxInt64} {
		for _, s := range []string{"a", "\xff", long(99)} {
			wantCmp(t, api.Value{Kind: api.KInt, N: 5, S: s}, number(5), 0)
			wantCmp(t, api.Value{Kind: api.KInt, N: 5, S: s}, number(6), -1)
			wantCmp(t, api.Value{Kind: api.KText, N: n, S: s}, text(s), 0)
			wantCmp(t, api.Value{Kind: api.KText, N: n, S: s}, text(s+"a"), -1)
			wantCmp(t, api.Value{N: n, S: s}, nothing, 0)
			for _, kind := range append(oddNumbers(), -1, 3) {
				wantCmp(t, api.Value{Kind: kind, N: n, S: s}, api.Value{Kind: kind}, 0)
				wantCmp(t, api.Value{Kind: kind, N: n, S: s}, api.Value{Kind: kind, N: 3, S: "b"}, 0)
			}
		}
	}
}

// P15.3: Cmp is an order of values that may stand in columns.

func TestCmpIsAnOrder(t *testing.T) {
	l := []api.Value{nothing}
	for _, n := range []int64{math.MinInt64, math.MinInt64 + 1, -1 << 32, -300, -2, -1, 0, 1, 2, 300, 1 << 32, math.MaxInt64 - 1, math.MaxInt64} {
		l = append(l, number(n))
	}
	for _, s := range append(wordsOf(), long(9), long(300), long(300)+"a") {
		l = append(l, text(s))
	}
	for _, a := range l {
		for _, b := range l {
			ab := value.Cmp(a, b)
			if ab < -1 || ab > 1 || ab != -value.Cmp(b, a) || (ab == 0) != (a == b) {
				t.Fatalf("%v against %v: %d", a, b, ab)
			}
			for _, c := range l {
				if ab <= 0 && value.Cmp(b, c) <= 0 && value.Cmp(a, c) > 0 {
					t.Fatalf("%v, %v, %v don't go up", a, b, c)
				}
			}
		}
	}
	order := slices.Clone(l)
	for i := range order {
		j := int(chance(i) % uint64(len(order)))
		order[i], order[j] = order[j], order[i]
	}
	slices.SortFunc(order, value.Cmp)
	for i := range len(order) - 1 {
		wantCmp(t, order[i], order[i+1], -1)
	}
	if order[0] != nothing || order[1] != number(math.MinInt64) || order[13] != number(math.MaxInt64) || order[14] != text("") {
		t.Fatalf("ordered as %.99v", order)
	}
}

// P15.1: Schema

func wantSchema(t *testing.T, s []api.Column, want api.Errno) {
	t.Helper()
	if e := value.Schema(s); e != want || e != schemaRefusal(s) {
		t.Fatalf("%d columns %.99v: %d, not %d", len(s), s, e, want)
	}
}

func TestSchemaOfHowManyColumns(t *testing.T) {
	for n := range 300 {
		want := api.OK
		if n == 0 || n > 64 {
			want = api.ErrLimit
		}
		wantSchema(t, slices.Repeat([]api.Column{ints()}, n), want)
		wantSchema(t, slices.Repeat([]api.Column{textsNull()}, n), want)
	}
	wantSchema(t, nil, api.ErrLimit)
	wantSchema(t, []api.Column{}, api.ErrLimit)
	wantSchema(t, []api.Column{ints(), texts()}[:0], api.ErrLimit)
	wantSchema(t, slices.Repeat([]api.Column{texts()}, 1<<16), api.ErrLimit)
	wantSchema(t, slices.Repeat([]api.Column{texts()}, 1<<16+1), api.ErrLimit)
}

func TestSchemaKinds(t *testing.T) {
	for _, kind := range append(oddNumbers(), api.KNull, -1, 3, 4, 5) {
		for _, way := range []int{-1, 0, 1, 2, 3, 4, 5, -2, 6} {
			for _, null := range []bool{false, true} {
				wrong := api.Column{Kind: kind, Null: null, Way: way}
				wantSchema(t, []api.Column{wrong}, api.ErrKind)
				wantSchema(t, []api.Column{wrong, ints()}, api.ErrKind)
				wantSchema(t, []api.Column{texts(), wrong, ints()}, api.ErrKind)
				wantSchema(t, []api.Column{texts(), ints(), wrong}, api.ErrKind)
				wantSchema(t, append(slices.Repeat([]api.Column{ints()}, 63), wrong), api.ErrKind)
			}
		}
	}
}

func TestSchemaWays(t *testing.T) {
	for _, kind := range []int{api.KInt, api.KText} {
		for _, way := range append(oddNumbers(), -1, 0, 1, 2, 3, 4, 5) {
			want := api.ErrArg
			if slices.Contains(waysOf(kind), way) {
				want = api.OK
			}
			for _, null := range []bool{false, true} {
				c := api.Column{Kind: kind, Null: null, Way: way}
				wantSchema(t, []api.Column{c}, want)
				wantSchema(t, []api.Column{c, intsNull()}, want)
				wantSchema(t, []api.Column{texts(), c, ints()}, want)
				wantSchema(t, []api.Column{texts(), intsNull(), c}, want)
				wantSchema(t, append(slices.Repeat([]api.Column{texts()}, 63), c), want)
			}
		}
	}
	wantSchema(t, []api.Column{{Kind: api.KInt, Way: api.Fore}, {Kind: api.KText, Way: api.Texts}}, api.OK)
	wantSchema(t, []api.Column{{Kind: api.KInt, Way: api.Texts}}, api.ErrArg)
	wantSchema(t, []api.Column{{Kind: api.KText, Way: api.Plain}}, api.ErrArg)
}

// Too many columns are told ahead of a kind, and a kind, in whichever column, ahead of
// a way.
func TestSchemaOrderOfErrors(t *testing.T) {
	noKind, noWay := api.Column{Kind: 3}, api.Column{Kind: api.KText, Way: api.Runs}
	wantSchema(t, []api.Column{noKind, noWay}, api.ErrKind)
	wantSchema(t, []api.Column{noWay, noKind}, api.ErrKind)
	wantSchema(t, []api.Column{noWay, ints(), texts(), noWay, noKind}, api.ErrKind)
	wantSchema(t, []api.Column{{Kind: api.KNull, Way: 6}}, api.ErrKind)
	wantSchema(t, slices.Repeat([]api.Column{noKind}, 65), api.ErrLimit)
	wantSchema(t, slices.Repeat([]api.Column{noWay}, 65), api.ErrLimit)
	wantSchema(t, append(slices.Repeat([]api.Column{ints()}, 64), noKind), api.ErrLimit)
	wantSchema(t, append([]api.Column{noWay}, slices.Repeat([]api.Column{ints()}, 64)...), api.ErrLimit)
	wantSchema(t, append([]api.Column{noWay}, slices.Repeat([]api.Column{noKind}, 63)...), api.ErrKind)
}

// P15.1: Row

func wantRow(t *testing.T, s []api.Column, row []api.Value, want api.Errno) {
	t.Helper()
	if e := value.Row(s, row); e != want || e != rowRefusal(s, row) {
		t.Fatalf("%d columns %.99v, %d values %.99v: %d, not %d", len(s), s, len(row), row, e, want)
	}
}

func TestRow(t *testing.T) {
	s := []api.Column{ints(), texts(), intsNull(), textsNull()}
	for _, n := range edges() {
		for _, w := range append(wordsOf(), long(api.MaxText)) {
			wantRow(t, s, []api.Value{number(n), text(w), number(n), text(w)}, api.OK)
			wantRow(t, s, []api.Value{number(n), text(w), nothing, nothing}, api.OK)
		}
	}
	for way := range 9 {
		c := api.Column{Kind: api.KInt, Way: way - 2}
		wantRow(t, []api.Column{c}, []api.Value{number(5)}, api.OK)
	}
	wantRow(t, slices.Repeat([]api.Column{textsNull()}, 64), slices.Repeat([]api.Value{text("a")}, 64), api.OK)
	wantRow(t, slices.Repeat([]api.Column{textsNull()}, 64), slices.Repeat([]api.Value{nothing}, 64), api.OK)
}

func TestRowOfOtherThanAsManyValues(t *testing.T) {
	for n := range 70 {
		s := slices.Repeat([]api.Column{intsNull()}, n)
		for m := range 70 {
			want := api.OK
			if n != m {
				want = api.ErrArg
			}
			wantRow(t, s, slices.Repeat([]api.Value{number(1)}, m), want)
		}
	}
	wantRow(t, nil, []api.Value{}, api.OK)
	wantRow(t, []api.Column{}, nil, api.OK)
	wantRow(t, nil, []api.Value{nothing}, api.ErrArg)
	wantRow(t, []api.Column{intsNull()}, nil, api.ErrArg)
	// Values that lie behind a row's length don't count.
	wantRow(t, []api.Column{ints(), ints()}, []api.Value{number(1), number(2)}[:1], api.ErrArg)
	wantRow(t, []api.Column{ints(), ints()}[:1], []api.Value{number(1), number(2)}, api.ErrArg)
	wantRow(t, slices.Repeat([]api.Column{ints()}, 1<<16+1), []api.Value{number(1)}, api.ErrArg)
}

// wrongOf is values that may not stand in the column.
func wrongOf(c api.Column) []api.Value {
	l := []api.Value{
		{N: 1}, {N: math.MinInt64}, {S: "a"}, {S: "\x00"}, {N: 1, S: "a"}, {S: long(api.MaxText + 1)},
		{Kind: api.KInt, S: "a"}, {Kind: api.KInt, N: 1, S: "\x00"}, {Kind: api.KInt, N: 1, S: long(api.MaxText + 1)},
		{Kind: api.KText, N: 1}, {Kind: api.KText, N: -1, S: "a"}, {Kind: api.KText, N: 1 << 32}, {Kind: api.KText, N: 1, S: long(api.MaxText + 1)},
	}
	for _, kind := range append(oddNumbers(), -1, 3, 4, 5) {
		l = append(l, api.Value{Kind: kind}, api.Value{Kind: kind, N: 5}, api.Value{Kind: kind, S: "a"})
	}
	if !c.Null {
		l = append(l, nothing)
	}
	if c.Kind != api.KInt {
		l = append(l, number(0), number(5), number(-1))
	}
	if c.Kind != api.KText {
		l = append(l, text(""), text("a"), text(long(api.MaxText)), text(long(api.MaxText+1)))
	}
	return l
}

// wantEachPlace looks whether a row that is right but for v is refused so, with v first,
// last and between.
func wantEachPlace(t *testing.T, c api.Column, v api.Value, want api.Errno) {
	t.Helper()
	wantRow(t, []api.Column{c}, []api.Value{v}, want)
	wantRow(t, []api.Column{c, ints(), texts()}, []api.Value{v, number(1), text("a")}, want)
	wantRow(t, []api.Column{ints(), c, texts()}, []api.Value{number(1), v, text("a")}, want)
	wantRow(t, []api.Column{textsNull(), ints(), c}, []api.Value{nothing, number(1), v}, want)
	wantRow(t, append(slices.Repeat([]api.Column{ints()}, 63), c), append(slices.Repeat([]api.Value{number(7)}, 63), v), want)
}

func TestRowOfValuesThatMayNotStand(t *testing.T) {
	for _, c := range []api.Column{ints(), intsNull(), texts(), textsNull()} {
		for _, v := range wrongOf(c) {
			wantEachPlace(t, c, v, api.ErrKind)
		}
	}
	wantEachPlace(t, intsNull(), nothing, api.OK)
	wantEachPlace(t, textsNull(), nothing, api.OK)
}

// In a column of no kind nothing may stand, if that column may have it, and no other
// value, of the same kind neither.
func TestRowOfAColumnOfNoKind(t *testing.T) {
	for _, kind := range append(oddNumbers(), api.KNull, -1, 3) {
		for _, v := range []api.Value{number(1), text("a"), {Kind: kind, N: 1}, {Kind: kind, S: "a"}} {
			wantEachPlace(t, api.Column{Kind: kind, Null: true}, v, api.ErrKind)
			wantEachPlace(t, api.Column{Kind: kind}, v, api.ErrKind)
		}
		wantEachPlace(t, api.Column{Kind: kind}, api.Value{Kind: kind}, api.ErrKind)
		wantEachPlace(t, api.Column{Kind: kind}, nothing, api.ErrKind)
		wantEachPlace(t, api.Column{Kind: kind, Null: true}, nothing, api.OK)
	}
}

func TestRowOfLongTexts(t *testing.T) {
	for _, c := range []api.Column{texts(), textsNull(), {Kind: api.KText, Way: api.Texts}} {
		wantEachPlace(t, c, text(long(api.MaxText-1)), api.OK)
		wantEachPlace(t, c, text(long(api.MaxText)), api.OK)
		wantEachPlace(t, c, text(long(api.MaxText+1)), api.ErrLimit)
		wantEachPlace(t, c, text(long(2*api.MaxText)), api.ErrLimit)
	}
	// It is bytes that are counted.
	wantRow(t, []api.Column{texts()}, []api.Value{text(strings.Repeat("\xc3\xa4", api.MaxText/2))}, api.OK)
	wantRow(t, []api.Column{texts()}, []api.Value{text(strings.Repeat("\xc3\xa4", api.MaxText/2) + "a")}, api.ErrLimit)
}

// Of several refusals the first column's is told; in one column the kind's is told
// ahead of the length's; how many values there are is told ahead of all.
func TestRowOrderOfErrors(t *testing.T) {
	tooLong := text(long(api.MaxText + 1))
	two := []api.Column{texts(), texts()}
	wantRow(t, two, []api.Value{tooLong, number(1)}, api.ErrLimit)
	wantRow(t, two, []api.Value{number(1), tooLong}, api.ErrKind)
	wantRow(t, two, []api.Value{tooLong, nothing}, api.ErrLimit)
	wantRow(t, two, []api.Value{nothing, tooLong}, api.ErrKind)
	wantRow(t, two, []api.Value{tooLong, tooLong}, api.ErrLimit)
	wantRow(t, two, []api.Value{text("a"), {Kind: api.KText, N: 1, S: tooLong.S}}, api.ErrKind)
	wantRow(t, two, []api.Value{tooLong}, api.ErrArg)
	wantRow(t, two, []api.Value{number(1)}, api.ErrArg)
	wantRow(t, two, []api.Value{tooLong, text("a"), text("b")}, api.ErrArg)
	wantRow(t, two, []api.Value{text("a"), text("b"), number(1)}, api.ErrArg)
	three := []api.Column{ints(), texts(), intsNull()}
	wantRow(t, three, []api.Value{number(1), tooLong, text("a")}, api.ErrLimit)
	wantRow(t, three, []api.Value{tooLong, tooLong, nothing}, api.ErrKind)
	wantRow(t, three, []api.Value{number(1), text("a"), tooLong}, api.ErrKind)
}

// A schema that isn't right has its rows, too, of more than MaxCols columns.
func TestRowOfManyColumns(t *testing.T) {
	for _, n := range []int{65, 300, 1 << 16} {
		s := slices.Repeat([]api.Column{ints()}, n)
		row := slices.Repeat([]api.Value{number(1)}, n)
		wantRow(t, s, row, api.OK)
		for _, i := range []int{0, 63, 64, n - 1} {
			row[i] = nothing
			wantRow(t, s, row, api.ErrKind)
			row[i] = number(1)
		}
	}
}

// P15.1, of any rows: each value in each column.
func TestRowOfEachValue(t *testing.T) {
	l := []api.Value{nothing, number(0), number(5), text(""), text("a"), text(long(api.MaxText + 1)), {N: 1}, {S: "a"}, {Kind: 1, S: "a"}, {Kind: 2, N: 1}, {Kind: 3}, {Kind: -1}}
	var columns []api.Column
	for kind := -1; kind < 4; kind++ {
		columns = append(columns, api.Column{Kind: kind}, api.Column{Kind: kind, Null: true})
	}
	for _, a := range l {
		for _, b := range l {
			for _, ca := range columns {
				for _, cb := range columns {
					s, row := []api.Column{ca, cb}, []api.Value{a, b}
					wantRow(t, s, row, rowRefusal(s, row))
				}
			}
		}
	}
}
