package zone_test

import (
	"math"
	"strings"
	"testing"

	"estreat/api"
	"estreat/value"
	"estreat/zone"
)

// P17.1: Sound

func TestSoundOfNulls(t *testing.T) {
	for _, n := range []int{1, 2, 3, 8, 65536, 1 << 20, math.MaxInt - 1} {
		for _, nulls := range []int{0, 1, n / 2, n - 1, n, n + 1, n + 2, -1, -2, -n, math.MinInt, math.MaxInt} {
			isLess := nulls >= 0 && nulls < n
			wantSound(t, span(nulls, number(5), number(9)), n, api.KInt, isLess)
			wantSound(t, span(nulls, text("a"), text("b")), n, api.KText, isLess)
			for _, kind := range append(noKinds(), api.KInt, api.KText) {
				wantSound(t, only(nulls), n, kind, nulls == n)
			}
		}
	}
}

// Some is whether Nulls is less.
func TestSoundOfSome(t *testing.T) {
	wantSound(t, only(0), 3, api.KInt, false)
	wantSound(t, only(2), 3, api.KInt, false)
	wantSound(t, only(3), 3, api.KInt, true)
	wantSound(t, span(3, number(5), number(9)), 3, api.KInt, false)
	wantSound(t, span(3, nothing, nothing), 3, api.KInt, false)
	wantSound(t, span(2, nothing, nothing), 3, api.KInt, false)
	wantSound(t, api.Zone{Nulls: 2, Min: number(5), Max: number(9)}, 3, api.KInt, false)
	wantSound(t, span(2, number(5), number(9)), 3, api.KInt, true)
	// Of more rows there are others, too.
	wantSound(t, span(2, number(5), number(9)), 4, api.KInt, true)
	wantSound(t, only(3), 4, api.KInt, false)
}

func TestSoundOfBothEnds(t *testing.T) {
	numbers := []int64{math.MinInt64, math.MinInt64 + 1, -9, -1, 0, 1, 5, 1 << 53, 1<<53 + 1, math.MaxInt64 - 1, math.MaxInt64}
	for i, a := range numbers {
		for j, b := range numbers {
			wantSound(t, span(0, number(a), number(b)), 2, api.KInt, i <= j)
			wantSound(t, span(1, number(a), number(b)), 2, api.KText, false)
		}
	}
	texts := []string{"", "\x00", "\x00\x00", "10", "9", "a", "ab", "abc", "ab\xff", "b", "\x80", "\xff", "\xff\x00"}
	for i, a := range texts {
		for j, b := range texts {
			wantSound(t, span(0, text(a), text(b)), 2, api.KText, i <= j)
			wantSound(t, span(1, text(a), text(b)), 2, api.KInt, false)
		}
	}
}

func TestSoundOfKinds(t *testing.T) {
	for _, kind := range append(noKinds(), api.KInt, api.KText) {
		wantSound(t, span(0, number(5), number(9)), 2, kind, kind == api.KInt)
		wantSound(t, span(0, text("a"), text("b")), 2, kind, kind == api.KText)
		// Of two kinds.
		wantSound(t, span(0, number(5), text("b")), 2, kind, false)
		wantSound(t, span(0, text("b"), number(5)), 2, kind, false)
		for _, other := range noKinds() {
			v := api.Value{Kind: other}
			wantSound(t, span(0, v, v), 2, kind, false)
			wantSound(t, span(1, v, v), 2, other, false)
			wantSound(t, span(0, v, number(5)), 2, kind, false)
			wantSound(t, span(0, number(5), v), 2, kind, false)
			wantSound(t, span(0, text("a"), v), 2, other, false)
			wantSound(t, span(0, v, text("a")), 2, other, false)
			wantSound(t, span(0, api.Value{Kind: other, N: 5}, api.Value{Kind: other, N: 9}), 2, kind, false)
			wantSound(t, span(0, api.Value{Kind: other, S: "a"}, api.Value{Kind: other, S: "b"}), 2, kind, false)
		}
	}
}

// oneIs looks for zones of which one end, or the other, or both are v.
func oneIs(t *testing.T, v, good api.Value, kind int, want bool) {
	t.Helper()
	wantSound(t, span(0, v, v), 3, kind, want)
	for _, z := range []api.Zone{span(0, v, good), span(0, good, v), span(2, v, good), span(2, good, v)} {
		wantSound(t, z, 3, kind, want && !ahead(z.Max, z.Min))
	}
}

func TestSoundOfRightValues(t *testing.T) {
	for _, good := range []api.Value{number(math.MinInt64), number(0), number(7), number(math.MaxInt64)} {
		oneIs(t, number(7), good, api.KInt, true)
		oneIs(t, api.Value{Kind: api.KInt, N: 7, S: "a"}, good, api.KInt, false)
		oneIs(t, api.Value{Kind: api.KInt, N: 7, S: "\x00"}, good, api.KInt, false)
		oneIs(t, api.Value{Kind: api.KInt, S: beyond}, good, api.KInt, false)
	}
	for _, good := range []api.Value{text(""), text("a"), text("l"), text("z")} {
		oneIs(t, text("a"), good, api.KText, true)
		oneIs(t, api.Value{Kind: api.KText, N: 1, S: "a"}, good, api.KText, false)
		oneIs(t, api.Value{Kind: api.KText, N: math.MinInt64, S: "a"}, good, api.KText, false)
		oneIs(t, api.Value{Kind: api.KText, N: 1 << 32}, good, api.KText, false)
		oneIs(t, text(long(api.MaxText-1)), good, api.KText, true)
		oneIs(t, text(long(api.MaxText)), good, api.KText, true)
		oneIs(t, tooLong(), good, api.KText, false)
		oneIs(t, text(long(2*api.MaxText)), good, api.KText, false)
		oneIs(t, api.Value{Kind: api.KText, N: 1, S: beyond}, good, api.KText, false)
	}
	wantSound(t, span(0, text(long(api.MaxText)[:api.MaxText-1]), text(long(api.MaxText))), 1, api.KText, true)
	wantSound(t, span(0, text(long(api.MaxText)), tooLong()), 1, api.KText, false)
}

// Without Some both are zero, whatever kind is asked.
func TestSoundOfNothingOnly(t *testing.T) {
	for _, kind := range append(noKinds(), api.KInt, api.KText) {
		for _, n := range []int{0, 1, 8} {
			wantSound(t, only(n), n, kind, true)
			for _, v := range []api.Value{number(0), number(5), text(""), text("a"), {N: 1}, {S: "a"}, {Kind: 3}, {Kind: -1}} {
				wantSound(t, api.Zone{Nulls: n, Min: v}, n, kind, false)
				wantSound(t, api.Zone{Nulls: n, Max: v}, n, kind, false)
				wantSound(t, api.Zone{Nulls: n, Min: v, Max: v}, n, kind, false)
			}
		}
	}
}

func TestSoundOfNoRows(t *testing.T) {
	for _, n := range []int{0, -1, -2, -8, math.MinInt} {
		for _, nulls := range []int{0, 1, -1, n, n + 1, n - 1, math.MaxInt, math.MinInt} {
			for _, kind := range []int{api.KNull, api.KInt, api.KText, 3, -1} {
				wantSound(t, only(nulls), n, kind, n == 0 && nulls == 0)
				wantSound(t, span(nulls, number(5), number(9)), n, kind, false)
				wantSound(t, span(nulls, text("a"), text("a")), n, kind, false)
				wantSound(t, span(nulls, nothing, nothing), n, kind, false)
			}
		}
	}
}

// columnOf is values that may stand in a column of the kind.
func (h *hat) columnOf(kind, n int) []api.Value {
	var l []api.Value
	nulls := h.below(4)
	for range n {
		v := []api.Value{api.KInt: number(int64(h.below(9)) - 4), api.KText: text(strings.Repeat("ab", h.below(3)))}[kind]
		if h.below(9) == 0 {
			v = []api.Value{api.KInt: number(math.MinInt64 + int64(h.below(2))), api.KText: text(long(api.MaxText - h.below(2)))}[kind]
		}
		if h.below(3) < nulls {
			v = nothing
		}
		l = append(l, v)
	}
	return l
}

// The zone of values that may stand in a column is sound for as many rows.
func TestSoundOfWhatMayStand(t *testing.T) {
	found := map[bool]int{}
	var h hat
	for i := range 20000 {
		kind, n := 1+i%2, h.below(7)
		l := h.columnOf(kind, n)
		for _, v := range l {
			if e := value.Row([]api.Column{{Kind: kind, Null: true}}, []api.Value{v}); e != api.OK {
				t.Fatalf("%s: %d", shown(v), e)
			}
		}
		z := zone.Of(l)
		found[z.Some]++
		wantSound(t, z, n, kind, true)
		wantSound(t, z, n, 3-kind, !z.Some)
		wantSound(t, z, n-1, kind, z.Some && z.Nulls < n-1)
		wantSound(t, z, n+1, kind, z.Some)
	}
	if found[false] < 1000 || found[true] < 1000 {
		t.Fatal(found)
	}
}

func TestSoundOfAny(t *testing.T) {
	found := map[bool]int{}
	var h hat
	for range 60000 {
		n := h.below(5)
		z := h.zone(n)
		switch h.below(12) {
		case 0:
			z.Nulls += h.below(3) - 1
		case 1:
			z.Some = !z.Some
		case 2:
			z.Min, z.Max = z.Max, z.Min
		case 3:
			z.Min = h.odd()
		case 4:
			z.Max = h.odd()
		case 5:
			n -= h.below(7)
		}
		for kind := -1; kind < 4; kind++ {
			is := isSound(z, n, kind)
			found[is]++
			wantSound(t, z, n, kind, is)
		}
	}
	if found[false] < 1000 || found[true] < 1000 {
		t.Fatal(found)
	}
}
