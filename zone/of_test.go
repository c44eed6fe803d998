package zone_test

import (
	"math"
	"slices"
	"strings"
	"testing"

	"estreat/api"
	"estreat/zone"
)

// P17.1: Of

func TestOfNoValues(t *testing.T) {
	wantOf(t, nil, api.Zone{})
	wantOf(t, []api.Value{}, api.Zone{})
	// What lies behind a list's length doesn't count.
	wantOf(t, []api.Value{number(1), nothing}[:0], api.Zone{})
	wantOf(t, []api.Value{number(1), nothing, number(2)}[:1], span(0, number(1), number(1)))
}

func TestOfNothingOnly(t *testing.T) {
	for _, n := range []int{1, 2, 3, 255, 256, 65536, 70000} {
		wantNulls := api.Zone{Nulls: n}
		if z := zone.Of(make([]api.Value, n)); z != wantNulls {
			t.Fatalf("%d: %s", n, shown(z))
		}
	}
	// Nothing is nothing, whatever it has besides.
	wantOf(t, []api.Value{{N: 5}, {S: "a"}, {N: -1, S: "b"}, nothing}, only(4))
	wantOf(t, []api.Value{{N: 5}, number(7), {S: "a"}}, span(2, number(7), number(7)))
}

func TestOfOneValue(t *testing.T) {
	for _, v := range []api.Value{
		number(0), number(5), number(-5), number(math.MinInt64), number(math.MaxInt64), text(""), text("a"), text("\x00"), text(long(api.MaxText)), tooLong(),
		{Kind: 3}, {Kind: -1}, {Kind: math.MinInt, N: 1}, {Kind: math.MaxInt, S: "a"}, {Kind: api.KInt, N: 1, S: "a"}, {Kind: api.KText, N: 1, S: "a"},
	} {
		wantOf(t, []api.Value{v}, span(0, v, v))
		wantOf(t, []api.Value{nothing, v}, span(1, v, v))
		wantOf(t, []api.Value{v, nothing, nothing}, span(2, v, v))
		wantOf(t, []api.Value{nothing, v, nothing, v, v}, span(2, v, v))
	}
}

// orders is each order of so few values.
func orders(l []api.Value) [][]api.Value {
	if len(l) == 0 {
		return [][]api.Value{nil}
	}
	var all [][]api.Value
	for i, v := range l {
		for _, rest := range orders(slices.Concat(l[:i], l[i+1:])) {
			all = append(all, append([]api.Value{v}, rest...))
		}
	}
	return all
}

// anyOrder looks for the zone of these, which are rising, in each order, with nothing
// among them and without.
func anyOrder(t *testing.T, l ...api.Value) {
	t.Helper()
	for _, m := range orders(l) {
		wantOf(t, m, span(0, l[0], l[len(l)-1]))
	}
	for _, m := range orders(append([]api.Value{nothing, nothing}, l...)) {
		wantOf(t, m, span(2, l[0], l[len(l)-1]))
	}
}

func TestOfSeveralValues(t *testing.T) {
	anyOrder(t, number(1), number(2))
	anyOrder(t, number(-9), number(0), number(4))
	anyOrder(t, number(5), number(6), number(7), number(9))
	anyOrder(t, number(math.MinInt64), number(math.MaxInt64))
	anyOrder(t, number(math.MinInt64), number(-1), number(0), number(math.MaxInt64))
	anyOrder(t, number(math.MinInt64), number(math.MinInt64+1))
	anyOrder(t, number(math.MaxInt64-1), number(math.MaxInt64))
	anyOrder(t, number(1<<53), number(1<<53+1))
	// Of texts one begins the other.
	anyOrder(t, text(""), text("a"))
	anyOrder(t, text(""), text("\x00"), text("\x00\x00"))
	anyOrder(t, text("a"), text("ab"), text("abc"), text("b"))
	anyOrder(t, text("abc"), text("ab\xff"), text("\x80"), text("\xff"))
	anyOrder(t, text(long(api.MaxText)[:api.MaxText-1]), text(long(api.MaxText)), tooLong())
	// Of several kinds, and of some that are none.
	anyOrder(t, number(math.MaxInt64), text(""))
	anyOrder(t, api.Value{Kind: -1, N: 99}, number(math.MinInt64), text("a"), api.Value{Kind: 3})
	anyOrder(t, api.Value{Kind: math.MinInt, S: "z"}, api.Value{Kind: -1}, api.Value{Kind: 3, N: -9}, api.Value{Kind: math.MaxInt})
}

func TestOfManyValues(t *testing.T) {
	for _, n := range []int{2, 100, 1000, 65536, 70000} {
		var l []api.Value
		least, greatest, nulls := int64(math.MaxInt64), int64(math.MinInt64), 0
		for i := range n {
			v := int64(chance(i) % 1000003)
			if i%3 == 2 {
				l = append(l, nothing)
				nulls++
				continue
			}
			l = append(l, number(v))
			least, greatest = min(least, v), max(greatest, v)
		}
		want := span(nulls, number(least), number(greatest))
		if z := zone.Of(l); z != want {
			t.Fatalf("%d: %s, not %s", n, shown(z), shown(want))
		}
	}
}

// Of several that are the same in order but not in all that they have, the first one
// is the least and the greatest.
func TestOfTheFirstOfThoseThatAreTheSame(t *testing.T) {
	alike := [][]api.Value{
		{{Kind: api.KInt, N: 5, S: "z"}, number(5), {Kind: api.KInt, N: 5, S: "a"}},
		{{Kind: api.KText, N: 9, S: "a"}, text("a"), {Kind: api.KText, N: -9, S: "a"}},
		{{Kind: 3, N: 9}, {Kind: 3}, {Kind: 3, N: -9, S: "a"}},
		{{Kind: -1, S: "z"}, {Kind: -1, N: 1}, {Kind: -1}},
	}
	for _, l := range alike {
		for _, m := range orders(l) {
			wantOf(t, m, span(0, m[0], m[0]))
			wantOf(t, slices.Concat([]api.Value{nothing}, m, []api.Value{nothing}), span(2, m[0], m[0]))
			wantOf(t, slices.Concat(m, m), span(0, m[0], m[0]))
		}
	}
	ahead, behind := api.Value{Kind: math.MinInt}, api.Value{Kind: math.MaxInt}
	for _, l := range alike {
		for _, m := range orders(l) {
			wantOf(t, append([]api.Value{ahead}, m...), span(0, ahead, m[0]))
			wantOf(t, append([]api.Value{m[0], ahead}, m[1:]...), span(0, ahead, m[0]))
			wantOf(t, append(slices.Clone(m), ahead), span(0, ahead, m[0]))
			wantOf(t, append([]api.Value{behind}, m...), span(0, m[0], behind))
			wantOf(t, append([]api.Value{m[0], behind}, m[1:]...), span(0, m[0], behind))
			wantOf(t, append(slices.Clone(m), behind), span(0, m[0], behind))
		}
	}
	// The first one of the least, and the first one of the greatest.
	wantOf(t, []api.Value{number(7), {Kind: api.KInt, N: 9, S: "x"}, {Kind: api.KInt, N: 5, S: "x"}, number(9), number(5)}, span(0, api.Value{Kind: api.KInt, N: 5, S: "x"}, api.Value{Kind: api.KInt, N: 9, S: "x"}))
}

func TestOfAny(t *testing.T) {
	var h hat
	for i := range 30000 {
		var l []api.Value
		for range h.below(6) {
			v := h.value()
			if i%2 == 0 && h.below(3) == 0 {
				v = h.odd()
			}
			l = append(l, v)
		}
		wantOf(t, l, zoneOf(l))
	}
}

// R4: memory

func TestOfLeavesWhatIsHandedIn(t *testing.T) {
	l := []api.Value{number(9), nothing, number(5), text("a"), {Kind: 3}, number(7), number(1)}
	kept := slices.Clone(l)
	z := zone.Of(l[:6])
	if !slices.Equal(l, kept) {
		t.Fatalf("%s: changed", shown(l))
	}
	want := span(1, number(5), api.Value{Kind: 3})
	for i := range l {
		l[i] = text(strings.Repeat("z", i))
	}
	if z != want {
		t.Fatalf("%s, not %s", shown(z), shown(want))
	}
}
