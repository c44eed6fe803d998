package group_test

import (
	"math"
	"slices"
	"testing"

	"estreat/api"
	"estreat/group"
)

// span is the zone of values from one to the other, and so many nothings.
func span(nulls int, least, greatest api.Value) api.Zone {
	return api.Zone{Nulls: nulls, Some: true, Min: least, Max: greatest}
}

// only is the zone of so many nothings.
func only(nulls int) api.Zone { return api.Zone{Nulls: nulls} }

// head is a header of so many rows and live ones with these zones.
func head(rows, live int, zones ...api.Zone) api.Header {
	h := api.Header{Rows: rows, Live: live, Dead: api.Hash{1, 2, 31: 32}}
	for i, z := range zones {
		h.Cols = append(h.Cols, api.ColHead{Zone: z, Chunk: api.Hash{byte(i + 3), 4, 31: byte(i + 5)}})
	}
	return h
}

// three is a schema of three columns: numbers, and numbers and texts that may be
// nothing.
func three() []api.Column {
	return []api.Column{ints(api.Auto), intsNull(api.Plain), textsNull(api.Auto)}
}

// soundHeads is headers that are sound for three.
func soundHeads() []api.Header {
	a, z := text("a"), text("z")
	return []api.Header{
		head(1, 1, span(0, number(5), number(5)), only(1), only(1)),
		head(1, 0, span(0, number(5), number(6)), span(0, number(-1), number(1)), span(0, a, a)),
		head(9, 9, span(0, number(math.MinInt64), number(math.MaxInt64)), span(8, number(0), number(0)), span(1, text(""), text(long(api.MaxText)))),
		head(9, 0, span(0, number(-300), number(300)), only(9), span(8, text(""), text(""))),
		head(127, 127, span(0, number(1), number(1)), span(127-1, number(1), number(1)), only(127)),
		head(128, 127, span(0, number(1), number(1)), only(128), span(127, a, z)),
		head(300, 129, span(0, number(1), number(1)), only(300), span(299, a, z)),
		head(16384, 16383, span(0, number(64), number(128)), span(16383, number(1), number(1)), only(16384)),
		head(api.MaxRows, api.MaxRows, span(0, number(1), number(2)), only(api.MaxRows), span(api.MaxRows-1, a, z)),
		head(api.MaxRows, 0, span(0, number(1), number(2)), span(0, number(1), number(2)), span(0, a, z)),
	}
}

// unsoundZones is zones that aren't sound for 9 rows of numbers that may be nothing.
func unsoundZones() []api.Zone {
	a, n, m := text("a"), number(1), number(2)
	return []api.Zone{
		only(-1), only(0), only(8), only(10), only(math.MaxInt), only(math.MinInt), only(1<<32 + 9),
		span(-1, n, m), span(9, n, m), span(10, n, m), span(math.MaxInt, n, m), span(math.MinInt, n, m), span(1<<32, n, m),
		span(0, m, n), span(0, number(0), number(-1)), span(0, a, a), span(0, n, a), span(0, a, n), span(0, nothing, nothing), span(0, nothing, n), span(0, n, nothing),
		span(0, api.Value{Kind: 1, S: "a"}, n), span(0, n, api.Value{Kind: 1, N: 2, S: "a"}), span(0, api.Value{Kind: 3}, api.Value{Kind: 3}), span(0, n, api.Value{Kind: 257, N: 1}),
		{Nulls: 9, Min: n}, {Nulls: 9, Max: n}, {Nulls: 9, Min: n, Max: n}, {Nulls: 9, Max: api.Value{S: "a"}}, {Nulls: 9, Min: api.Value{N: 1}}, {Nulls: 3, Min: n, Max: m}, {Min: n, Max: m},
	}
}

// unsoundTextZones is zones that aren't sound for 9 rows of texts that may be nothing.
func unsoundTextZones() []api.Zone {
	a, b, beyond := text("a"), text("b"), text(long(api.MaxText+1))
	return []api.Zone{
		only(0), only(8), only(10), span(9, a, b), span(0, b, a), span(0, a, text("")), span(0, number(1), number(1)), span(0, a, number(1)), span(0, number(1), a),
		span(0, a, beyond), span(0, beyond, beyond), span(0, beyond, text("z")), span(0, api.Value{Kind: 2, N: 1, S: "a"}, b), span(0, a, api.Value{Kind: 2, N: 1, S: "b"}),
	}
}

// P18.2: Sound

func wantSound(t *testing.T, h api.Header, s []api.Column, want bool) {
	t.Helper()
	if got := group.Sound(h, s); got != want || soundBy(h, s) != want {
		t.Errorf("Sound of %d rows, %d live, %d columns of %d: %v, want %v", h.Rows, h.Live, len(h.Cols), len(s), got, want)
	}
}

func TestSoundHeaders(t *testing.T) {
	for _, h := range soundHeads() {
		wantSound(t, h, three(), true)
	}
}

func TestSoundAsksRowsAndLive(t *testing.T) {
	least, greatest := number(1), number(2)
	for _, rows := range []int{0, -1, -9, math.MinInt, api.MaxRows + 1, api.MaxRows + 2, 1 << 31, 1<<32 + 1, math.MaxInt} {
		for _, live := range []int{0, 1, rows, rows - 1, -1} {
			wantSound(t, head(rows, live, span(0, least, greatest)), one(), false)
			wantSound(t, head(rows, live, only(rows)), []api.Column{intsNull(api.Auto)}, false)
		}
	}
	for _, rows := range []int{1, 2, 9, api.MaxRows - 1, api.MaxRows} {
		for _, live := range []int{0, 1, rows - 1, rows} {
			wantSound(t, head(rows, live, span(0, least, greatest)), one(), true)
		}
		for _, live := range []int{-1, -2, -rows, rows + 1, rows + 2, math.MinInt, math.MaxInt, 1<<32 + 1, 1 << 32} {
			wantSound(t, head(rows, live, span(0, least, greatest)), one(), false)
		}
	}
}

func TestSoundAsksHowManyColumns(t *testing.T) {
	h := soundHeads()[1]
	for n := range len(h.Cols) {
		fewer := h
		fewer.Cols = h.Cols[:n]
		wantSound(t, fewer, three(), false)
		wantSound(t, fewer, three()[:n], true)
		wantSound(t, h, three()[:n], false)
	}
	more := h
	more.Cols = append(slices.Clone(h.Cols), h.Cols[2])
	wantSound(t, more, three(), false)
	wantSound(t, more, append(three(), textsNull(api.Auto)), true)
	wantSound(t, h, append(three(), textsNull(api.Auto)), false)
	// Of a schema of no column nothing but rows and live is asked.
	wantSound(t, head(1, 1), nil, true)
	wantSound(t, head(1, 1), []api.Column{}, true)
	wantSound(t, head(0, 0), nil, false)
	wantSound(t, head(1, 2), nil, false)
}

func TestSoundAsksEachZone(t *testing.T) {
	n, a := span(4, number(1), number(2)), span(4, text("a"), text("b"))
	for _, z := range unsoundZones() {
		s := []api.Column{intsNull(api.Auto), intsNull(api.Runs), textsNull(api.Auto)}
		wantSound(t, head(9, 9, z, n, a), s, false)
		wantSound(t, head(9, 9, n, z, a), s, false)
	}
	for _, z := range unsoundTextZones() {
		s := []api.Column{textsNull(api.Auto), intsNull(api.Runs), textsNull(api.Texts)}
		wantSound(t, head(9, 9, z, n, a), s, false)
		wantSound(t, head(9, 9, a, n, z), s, false)
	}
}

func TestSoundAsksForNothingWhereItMayNotBe(t *testing.T) {
	n, a := span(0, number(1), number(2)), span(0, text("a"), text("b"))
	s := []api.Column{ints(api.Auto), ints(api.Runs), texts(api.Auto)}
	wantSound(t, head(9, 9, n, n, a), s, true)
	for _, nulls := range []int{1, 2, 8} {
		z, b := span(nulls, number(1), number(2)), span(nulls, text("a"), text("b"))
		wantSound(t, head(9, 9, z, n, a), s, false)
		wantSound(t, head(9, 9, n, z, a), s, false)
		wantSound(t, head(9, 9, n, n, b), s, false)
		wantSound(t, head(9, 9, z, z, b), []api.Column{intsNull(api.Auto), intsNull(api.Runs), textsNull(api.Auto)}, true)
	}
	wantSound(t, head(9, 9, n, only(9), a), s, false)
	wantSound(t, head(9, 9, n, n, only(9)), s, false)
	wantSound(t, head(9, 9, only(9)), []api.Column{intsNull(api.Auto)}, true)
}

// The digests may be any: they aren't asked.
func TestSoundAsksNoDigest(t *testing.T) {
	h := api.Header{Rows: 3, Live: 2, Cols: []api.ColHead{{Zone: span(0, number(1), number(2))}}}
	wantSound(t, h, one(), true)
	h.Dead, h.Cols[0].Chunk = api.Hash{9}, api.Hash{31: 9}
	wantSound(t, h, one(), true)
}

// P18.2: PutHeader

func TestPutHeader(t *testing.T) {
	for _, h := range soundHeads() {
		if got, want := group.PutHeader(h), headerForm(h); !slices.Equal(got, want) {
			t.Errorf("of %d rows: %x, want %x", h.Rows, got[:min(99, len(got))], want[:min(99, len(want))])
		}
	}
	h := head(300, 5, span(2, number(-1), number(64)), only(300))
	want := slices.Concat([]byte{0xac, 2, 5}, h.Dead[:], []byte{2, 1, 1, 1, 1, 0x80, 1}, h.Cols[0].Chunk[:], []byte{0xac, 2, 0}, h.Cols[1].Chunk[:])
	if got := group.PutHeader(h); !slices.Equal(got, want) {
		t.Errorf("%x, want %x", got, want)
	}
}

// P18.1 and P18.2

func TestAGroupsHeaderIsSound(t *testing.T) {
	for i := range 200 {
		h := hat(i * 7000)
		s := h.schema()
		rows := h.rows(s, 1+h.below(30))
		g := made(t, s, rows, h.places(len(rows))...)
		wantSound(t, g.Header(), s, true)
		if got, want := group.PutHeader(g.Header()), headerForm(g.Header()); !slices.Equal(got, want) {
			t.Fatalf("%x, want %x", got, want)
		}
	}
}

// Of a header that isn't sound nothing is promised, but that there is an answer.
func TestPutHeaderOfAnyHeader(t *testing.T) {
	for _, n := range []int{-1, 0, 1 << 40, math.MinInt, math.MaxInt} {
		group.PutHeader(head(n, n, only(n), span(n, nothing, api.Value{Kind: n, N: 3, S: "a"}), span(1, number(4), text(long(api.MaxText+1)))))
	}
	group.PutHeader(api.Header{})
	group.PutHeader(api.Header{Cols: make([]api.ColHead, 1000)})
}
