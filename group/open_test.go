package group_test

import (
	"bytes"
	"math"
	"slices"
	"testing"

	"estreat/api"
	"estreat/chunk"
	"estreat/group"
	"estreat/sha"
)

// wantOpen looks whether p opens as these rows, zero values in columns that aren't
// asked for.
func wantOpen(t *testing.T, p parts, rows [][]api.Value) {
	t.Helper()
	wantRows, wantAlive := p.rowsAndAlive(rows)
	got, alive, e := group.Open(p.schema, p.header, p.dead, p.cols, p.chunks)
	if e != api.OK || !sameRows(got, wantRows) || !slices.Equal(alive, wantAlive) {
		t.Errorf("Open of %s: %v, %d rows, alive %v", shown(p), e, len(got), alive)
	}
}

// wantNotOpen looks whether p is refused with that error, also with it by the words of
// the document.
func wantNotOpen(t *testing.T, p parts, want api.Errno) {
	t.Helper()
	rows, alive, e := group.Open(p.schema, p.header, p.dead, p.cols, p.chunks)
	if e != want || rows != nil || alive != nil {
		t.Errorf("Open of %s: %v, %d rows, want %v", shown(p), e, len(rows), want)
	}
	if _, _, e := openedBy(p); e != want {
		t.Errorf("Open of %s: %v by the words, want %v", shown(p), e, want)
	}
}

// wantNotLoaded looks whether p, with all columns, is refused by Load with that error.
func wantNotLoaded(t *testing.T, p parts, want api.Errno) {
	t.Helper()
	g, e := group.Load(p.schema, p.header, p.dead, p.chunks)
	if e != want || g != nil {
		t.Errorf("Load of %s: %v, group %v, want %v", shown(p), e, g != nil, want)
	}
}

// wantRefused looks at both.
func wantRefused(t *testing.T, p parts, want api.Errno) {
	t.Helper()
	wantNotOpen(t, p, want)
	wantNotLoaded(t, p, want)
}

// mixed is a schema of three columns, rows of it, and their parts, of which two are dead.
func mixed(t *testing.T) ([]api.Column, [][]api.Value, parts) {
	t.Helper()
	s := []api.Column{ints(api.Plain), textsNull(api.Auto), intsNull(api.Dict)}
	rows := [][]api.Value{
		{number(3), text("b"), number(10)}, {number(4), nothing, nothing}, {number(-1), text(""), number(13)}, {number(9), nothing, number(13)}, {number(2), text("b"), number(-7)},
		{number(3), text("b"), number(10)}, {number(3), text("c"), number(10)}, {number(3), text("b"), nothing}, {number(0), text("a"), number(10)}, {number(3), text("b"), number(11)},
	}
	return s, rows, partsOf(t, s, rows, 1, 9)
}

// P18.3: Open

func TestOpen(t *testing.T) {
	s, rows, p := mixed(t)
	for _, dead := range [][]int{{}, {0}, {9}, {1, 8}, {0, 2, 4, 6, 8}, upTo(10)} {
		p := partsOf(t, s, rows, dead...)
		for _, cols := range [][]int{{}, {0}, {1}, {2}, {0, 1}, {0, 2}, {1, 2}, {0, 1, 2}} {
			wantOpen(t, p.of(cols...), rows)
		}
	}
	got, alive, e := group.Open(s, p.header, p.dead, []int{1}, p.chunks[1:2])
	if e != api.OK || !slices.Equal(got[0], []api.Value{nothing, text("b"), nothing}) || !slices.Equal(got[1], []api.Value{nothing, nothing, nothing}) {
		t.Error(got, e)
	}
	if !slices.Equal(alive, []bool{true, false, true, true, true, true, true, true, true, false}) {
		t.Error(alive)
	}
}

// In whatever way a chunk is laid: Open doesn't ask the column's Way.
func TestOpenOfEachWay(t *testing.T) {
	rows := numbers(5, 5, 6, 7, 100, -3, 5)
	for asked := api.Auto; asked <= api.Fore; asked++ {
		for laid := api.Plain; laid <= api.Fore; laid++ {
			p := partsOf(t, []api.Column{ints(laid)}, rows, 3)
			p.schema = []api.Column{ints(asked)}
			wantOpen(t, p, rows)
		}
	}
}

func TestOpenOfManyRows(t *testing.T) {
	var l []int64
	for i := range api.MaxRows {
		l = append(l, int64(chance(i)))
	}
	rows := numbers(l...)
	p := partsOf(t, one(), rows, 0, 77, api.MaxRows-1)
	wantOpen(t, p, rows)
	wantOpen(t, p.of(), rows)
	wantLoaded(t, p, rows, 0, 77, api.MaxRows-1)
}

func TestOpenOfWrongSchemas(t *testing.T) {
	for _, l := range wrongSchemas() {
		for _, s := range l {
			p := parts{schema: s, header: head(1, 1), dead: []byte{0}}
			for range s {
				p.header.Cols = append(p.header.Cols, api.ColHead{Zone: only(1)})
			}
			p.header.Dead = sha.Sum(p.dead)
			wantNotOpen(t, p, api.ErrArg)
			wantNotLoaded(t, p, api.ErrArg)
		}
	}
	// Each way of a kind, and none besides, if all else is right.
	rows := numbers(1, 2)
	p := partsOf(t, one(), rows)
	for _, way := range []int{-2, 5, 6, 255, math.MaxInt, math.MinInt} {
		p.schema = []api.Column{ints(way)}
		wantRefused(t, p, api.ErrArg)
	}
	p.schema = []api.Column{{Kind: 3, Way: api.Auto}}
	wantRefused(t, p, api.ErrArg)
	p.schema = nil
	wantRefused(t, p, api.ErrArg)
}

func TestOpenOfHeadersThatAreNotSound(t *testing.T) {
	_, _, p := mixed(t)
	for _, z := range unsoundZones() {
		wantRefused(t, p.withZone(0, z), api.ErrArg)
	}
	n := number(1)
	for _, f := range []func(h *api.Header){
		func(h *api.Header) { h.Rows = 0 },
		func(h *api.Header) { h.Rows = -1 },
		func(h *api.Header) { h.Rows = api.MaxRows + 1 },
		func(h *api.Header) { h.Rows = math.MaxInt },
		func(h *api.Header) { h.Live = -1 },
		func(h *api.Header) { h.Live = 11 },
		func(h *api.Header) { h.Live = math.MinInt },
		func(h *api.Header) { h.Cols = h.Cols[:2] },
		func(h *api.Header) { h.Cols = nil },
		func(h *api.Header) { h.Cols = append(h.Cols, h.Cols[0]) },
		func(h *api.Header) { h.Cols[0].Zone = span(1, n, n) },
		func(h *api.Header) { h.Cols[0].Zone = only(10) },
		func(h *api.Header) { h.Cols[1].Zone = span(2, n, n) },
		func(h *api.Header) { h.Cols[2].Zone.Nulls = 10 },
		func(h *api.Header) { h.Cols[2].Zone.Max = number(-8) },
		func(h *api.Header) { *h = api.Header{} },
	} {
		wantRefused(t, p.withHeader(f), api.ErrArg)
	}
}

func TestOpenOfColumnsThatDoNotRise(t *testing.T) {
	_, rows, p := mixed(t)
	chunks := [][]byte{p.chunks[0], p.chunks[1], p.chunks[2], p.chunks[0]}
	for _, cols := range [][]int{
		{1, 0}, {2, 1}, {0, 2, 1}, {0, 0}, {1, 1}, {2, 2}, {0, 1, 1}, {0, 1, 2, 2}, {2, 0}, {-1}, {-1, 0}, {-2, 1}, {3}, {0, 3}, {2, 3}, {0, 1, 2, 3}, {64}, {255}, {256},
		{math.MinInt}, {math.MaxInt}, {0, math.MinInt}, {0, math.MaxInt}, {1 << 32}, {1<<32 + 1}, {math.MaxInt, math.MinInt}, {math.MaxInt, 0},
	} {
		q := p.copied()
		q.cols, q.chunks = cols, chunks[:len(cols)]
		wantNotOpen(t, q, api.ErrArg)
	}
	wantOpen(t, p, rows)
}

func TestOpenOfOtherThanAsManyChunks(t *testing.T) {
	_, _, p := mixed(t)
	for cols := range 4 {
		for chunks := range 6 {
			q := p.copied()
			q.cols = upTo(3)[:cols]
			q.chunks = append(q.chunks, q.chunks...)[:chunks]
			if cols != chunks {
				wantNotOpen(t, q, api.ErrArg)
			}
			if chunks != 3 {
				wantNotLoaded(t, q, api.ErrArg)
			}
		}
	}
}

func TestOpenOfOtherDigestsOfDead(t *testing.T) {
	_, _, p := mixed(t)
	for _, dead := range [][]byte{nil, {}, {2}, {2, 2, 0}, {2, 3}, {3, 2}, {0, 2}, {2, 0}, {2, 0x82}, {0xfd, 1}} {
		q := p.copied()
		q.dead = dead
		wantRefused(t, q, api.ErrHash)
		wantNotOpen(t, q.of(), api.ErrHash)
	}
	for i := range p.header.Dead {
		wantRefused(t, p.withHeader(func(h *api.Header) { h.Dead[i] ^= 0x10 }), api.ErrHash)
	}
}

func TestOpenOfWrongSetsOfDead(t *testing.T) {
	_, _, p := mixed(t)
	wantRefused(t, p.withDead(), api.ErrShort)
	wantRefused(t, p.withDead(2), api.ErrShort)
	wantRefused(t, p.withDead(2, 2, 0), api.ErrLong)
	wantRefused(t, p.withDead(make([]byte, 9000)...), api.ErrLong)
	for bit := 2; bit < 8; bit++ {
		wantRefused(t, p.withDead(2, 2|1<<bit), api.ErrForm)
		wantNotOpen(t, p.withDead(2, 2|1<<bit).of(), api.ErrForm)
	}
}

func TestOpenOfAnotherLive(t *testing.T) {
	_, rows, p := mixed(t)
	for live := range 11 {
		q := p.withHeader(func(h *api.Header) { h.Live = live })
		if live == 8 {
			wantOpen(t, q, rows)
			continue
		}
		wantRefused(t, q, api.ErrForm)
		wantNotOpen(t, q.of(), api.ErrForm)
	}
	wantRefused(t, p.withDead(0, 0), api.ErrForm)
	wantRefused(t, p.withDead(2, 3), api.ErrForm)
	wantRefused(t, p.withDead(0, 2), api.ErrForm)
}

func TestOpenOfOtherDigestsOfChunks(t *testing.T) {
	_, rows, p := mixed(t)
	for c := range 3 {
		for _, b := range [][]byte{nil, {}, {0}, p.chunks[(c+1)%3], append(bytes.Clone(p.chunks[c]), 0), p.chunks[c][1:]} {
			q := p.copied()
			q.chunks[c] = b
			wantRefused(t, q, api.ErrHash)
			wantNotOpen(t, p.of(c).withHeader(func(h *api.Header) { h.Cols[c].Chunk[31]++ }), api.ErrHash)
		}
		for i := range p.chunks[c] {
			q := p.copied()
			q.chunks[c][i] ^= 1
			wantRefused(t, q, api.ErrHash)
		}
		// Of a column that isn't asked for, the digest may be any.
		others := slices.Delete(upTo(3), c, c+1)
		wantOpen(t, p.of(others...).withHeader(func(h *api.Header) { h.Cols[c].Chunk = api.Hash{} }), rows)
	}
}

func TestOpenOfWrongChunks(t *testing.T) {
	_, _, p := mixed(t)
	for c := range 3 {
		for want, l := range map[api.Errno][][]byte{
			api.ErrShort: {nil, {}, {0}, {1, 0}, {1, 0, 1}},
			api.ErrForm:  {{2}, {255, 0}, {1, 0, 0, 0}, {1, 0, 4, 0}, {1, 255, 255}},
			api.ErrKind:  {{0, 6}, {0, 255}, {1, 1, 0, 6}},
		} {
			for _, b := range l {
				wantRefused(t, p.withChunk(c, b), want)
				wantNotOpen(t, p.of(c).withChunk(c, b), want)
			}
		}
	}
	wantRefused(t, p.withChunk(0, []byte{0, api.Texts, 1, 1, 'a', 0}), api.ErrKind)
	wantRefused(t, p.withChunk(1, []byte{0, api.Plain, 2}), api.ErrKind)
	wantRefused(t, p.withChunk(0, p.chunks[0][:11]), api.ErrShort)
	wantRefused(t, p.withChunk(0, append(bytes.Clone(p.chunks[0]), 0)), api.ErrLong)
	wantRefused(t, p.withChunk(0, []byte{0, api.Runs, 11, 0}), api.ErrRange)
	wantRefused(t, p.withChunk(1, slices.Concat([]byte{0, api.Texts, 1}, varOf(api.MaxText+1), []byte(long(api.MaxText+1)), []byte{0})), api.ErrLimit)
}

func TestOpenOfNothingWhereItMayNotBe(t *testing.T) {
	s, rows, _ := mixed(t)
	rows[4][0] = nothing
	b := chunkOf(t, valuesOf(rows, 0), intsNull(api.Plain))
	rows[4][0] = number(2)
	p := partsOf(t, s, rows, 1, 9)
	// Ahead of its zone's being another one, and whichever zone is told.
	wantRefused(t, p.withChunk(0, b), api.ErrKind)
	wantNotOpen(t, p.of(0).withChunk(0, b), api.ErrKind)
	wantRefused(t, p.withChunk(0, b).withZone(0, span(0, number(-9), number(99))), api.ErrKind)
	all := chunkOf(t, make([]api.Value, 10), intsNull(api.Plain))
	wantRefused(t, p.withChunk(0, all), api.ErrKind)
	wantRefused(t, p.withChunk(2, all), api.ErrForm)
	p.schema = []api.Column{ints(api.Plain), texts(api.Auto), intsNull(api.Dict)}
	p = p.withZone(1, span(0, text(""), text("c")))
	wantRefused(t, p, api.ErrKind)
}

func TestOpenOfOtherZones(t *testing.T) {
	_, rows, p := mixed(t)
	for c, l := range [][]api.Zone{
		{span(0, number(-1), number(8)), span(0, number(0), number(9)), span(0, number(-2), number(9)), span(0, number(-1), number(10))},
		{span(2, text(""), text("b")), span(2, text("\x00"), text("c")), span(1, text(""), text("c")), span(3, text(""), text("c")), span(0, text(""), text("c")), only(10)},
		{span(2, number(-7), number(12)), span(2, number(-6), number(13)), span(3, number(-7), number(13)), span(1, number(-7), number(13)), only(10)},
	} {
		for _, z := range l {
			wantRefused(t, p.withZone(c, z), api.ErrForm)
			wantNotOpen(t, p.of(c).withZone(c, z), api.ErrForm)
			// Of a column that isn't asked for, the zone may be any that is sound.
			wantOpen(t, p.of(slices.Delete(upTo(3), c, c+1)...).withZone(c, z), rows)
		}
	}
}

// wrong is what is wrong with parts, of which several things may be.
type wrong struct {
	way, nulls, rows, fewer, deadDigest, live bool
	dead                                      []byte
	digest, greatest                          [3]bool
	chunk                                     [3][]byte
}

// laidOver is mixed's parts with all that is wrong.
func (w wrong) laidOver(p parts) parts {
	if w.dead != nil {
		p = p.withDead(w.dead...)
	}
	for c := range 3 {
		if w.chunk[c] != nil {
			p = p.withChunk(c, w.chunk[c])
		}
		if w.greatest[c] {
			p = p.withHeader(func(h *api.Header) { h.Cols[c].Zone.Max = []api.Value{number(99), text("z"), number(99)}[c] })
		}
		if w.digest[c] {
			p = p.withHeader(func(h *api.Header) { h.Cols[c].Chunk[0]++ })
		}
	}
	p = p.withHeader(func(h *api.Header) {
		if w.nulls {
			h.Cols[1].Zone.Nulls = 10
		}
		if w.rows {
			h.Rows = 0
		}
		if w.deadDigest {
			h.Dead[3]++
		}
		if w.live {
			h.Live = 9
		}
	})
	if w.way {
		p.schema[2].Way = api.Texts
	}
	if w.fewer {
		p.chunks = p.chunks[:2]
	}
	return p
}

// fault is one thing that may be wrong, with what is told of it; of two faults of one
// thing just one may be there.
type fault struct {
	thing string
	want  api.Errno
	lay   func(w *wrong)
}

// faults is in the order in which they are looked for.
func faults() []fault {
	l := []fault{
		{"way", api.ErrArg, func(w *wrong) { w.way = true }},
		{"nulls", api.ErrArg, func(w *wrong) { w.nulls = true }},
		{"rows", api.ErrArg, func(w *wrong) { w.rows = true }},
		{"fewer", api.ErrArg, func(w *wrong) { w.fewer = true }},
		{"digest", api.ErrHash, func(w *wrong) { w.deadDigest = true }},
		{"dead", api.ErrShort, func(w *wrong) { w.dead = []byte{2} }},
		{"dead", api.ErrLong, func(w *wrong) { w.dead = []byte{2, 2, 0} }},
		{"dead", api.ErrForm, func(w *wrong) { w.dead = []byte{2, 0x82} }},
		{"live", api.ErrForm, func(w *wrong) { w.live = true }},
	}
	for c := range 3 {
		column := "column " + string(rune('0'+c))
		l = append(l, fault{column + "'s digest", api.ErrHash, func(w *wrong) { w.digest[c] = true }})
		broken := func(want api.Errno, b ...byte) {
			l = append(l, fault{column + "'s chunk", want, func(w *wrong) { w.chunk[c] = b }})
		}
		broken(api.ErrShort, 0)
		broken(api.ErrForm, 3, 0)
		broken(api.ErrKind, 0, 77)
		if c == 0 {
			broken(api.ErrKind, 1, 255, 3, api.Plain)
		}
		l = append(l, fault{column + "'s zone", api.ErrForm, func(w *wrong) { w.greatest[c] = true }})
	}
	return l
}

func TestOpenTellsTheFirstFault(t *testing.T) {
	_, _, p := mixed(t)
	l := faults()
	for i, first := range l {
		var w wrong
		first.lay(&w)
		wantRefused(t, w.laidOver(p), first.want)
		for _, later := range l[i+1:] {
			if later.thing != first.thing {
				w := w
				later.lay(&w)
				wantRefused(t, w.laidOver(p), first.want)
			}
		}
	}
}

// P18.3: Load

// wantLoaded looks whether p loads as the group of these rows, of which these are dead.
func wantLoaded(t *testing.T, p parts, rows [][]api.Value, dead ...int) *group.Group {
	t.Helper()
	g, e := group.Load(p.schema, p.header, p.dead, p.chunks)
	if e != api.OK {
		t.Fatalf("Load of %s: %v", shown(p), e)
	}
	wantGroup(t, g, p.schema, rows, dead...)
	return g
}

func TestLoad(t *testing.T) {
	s, rows, _ := mixed(t)
	for _, dead := range [][]int{{}, {0}, {9}, {1, 8}, {0, 2, 4, 6, 8}, upTo(10)} {
		g := wantLoaded(t, partsOf(t, s, rows, dead...), rows, dead...)
		c := g.Copy()
		for i := range rows {
			if isDead := slices.Contains(dead, i); g.Kill(i) == isDead {
				t.Errorf("Kill of %d", i)
			}
		}
		if g.Kill(-1) || g.Kill(10) {
			t.Error("killed beyond")
		}
		wantGroup(t, g, s, rows, upTo(10)...)
		wantGroup(t, c, s, rows, dead...)
	}
}

func TestLoadOfEachWay(t *testing.T) {
	h := hat(3)
	rows := h.rows(every(), 25)
	wantLoaded(t, partsOf(t, every(), rows, 3, 24), rows, 3, 24)
}

func TestLoadOfAnotherWay(t *testing.T) {
	for _, l := range [][]api.Value{
		{number(5), number(5), number(6), number(7), number(100), number(-3), number(5)},
		{number(5), nothing, number(5), number(5), nothing, number(5), number(5), number(5), number(5), number(5), number(5)},
		{number(1), number(2), number(3), number(4), number(5), number(6), number(7), number(8), number(9), number(10), number(11), number(12), number(13)},
	} {
		best := chunk.Best(l, api.KInt)
		for asked := api.Auto; asked <= api.Fore; asked++ {
			for laid := api.Plain; laid <= api.Fore; laid++ {
				p := partsOf(t, []api.Column{intsNull(laid)}, column(l...))
				p.schema = []api.Column{intsNull(asked)}
				if asked == laid || asked == api.Auto && laid == best {
					wantLoaded(t, p, column(l...))
				} else {
					wantNotLoaded(t, p, api.ErrForm)
				}
			}
		}
	}
}

// In whichever column another way is, it is told, behind what is wrong with columns.
func TestLoadTellsAnotherWayLast(t *testing.T) {
	s := []api.Column{ints(api.Plain), ints(api.Dict), intsNull(api.Fore)}
	rows := [][]api.Value{{number(1), number(2), number(3)}, {number(5), number(6), nothing}}
	right := partsOf(t, s, rows)
	wantLoaded(t, right, rows)
	for c := range s {
		p := right.withChunk(c, chunkOf(t, valuesOf(rows, c), intsNull(api.Runs)))
		wantOpen(t, p, rows)
		wantNotLoaded(t, p, api.ErrForm)
		for d := range s {
			q := p.copied()
			q.chunks[d] = []byte{9}
			wantNotLoaded(t, q, api.ErrHash)
			if d != c {
				wantNotLoaded(t, p.withChunk(d, []byte{0, 99}), api.ErrKind)
				wantNotLoaded(t, p.withChunk(d, nil), api.ErrShort)
			}
		}
	}
}

// P18.4

func TestWhatAGroupTellsOpensAndLoads(t *testing.T) {
	for i := range 400 {
		h := hat(i * 4000)
		s := h.schema()
		rows := h.rows(s, 1+h.below(50))
		dead := h.places(len(rows))
		g := made(t, s, rows, dead...)
		p := told(s, g)
		wantOpen(t, p, rows)
		wantOpen(t, p.of(h.places(len(s))...), rows)
		wantOpen(t, told(s, wantLoaded(t, p, rows, dead...)), rows)
	}
}

// Of any parts with any faults Open and Load answer as by the words of the document.
func TestOpenOfAnyParts(t *testing.T) {
	seen := map[api.Errno]int{}
	for i := range 4000 {
		h := hat(i * 900)
		s := h.schema()
		rows := h.rows(s, 1+h.below(12))
		p := partsOf(t, s, rows, h.places(len(rows))...)
		for range h.below(3) {
			p = h.turned(t, p)
		}
		all := len(p.cols) == len(p.schema)
		wantRows, wantAlive, want := openedBy(p)
		got, alive, e := group.Open(p.schema, p.header, p.dead, p.cols, p.chunks)
		if e != want || !sameRows(got, wantRows) || !slices.Equal(alive, wantAlive) {
			t.Fatalf("Open of %s: %v, want %v", shown(p), e, want)
		}
		seen[e]++
		if !all {
			continue
		}
		if g, e := group.Load(p.schema, p.header, p.dead, p.chunks); e != want && e != api.ErrForm || (g != nil) != (e == api.OK) {
			t.Fatalf("Load of %s: %v, want %v", shown(p), e, want)
		}
	}
	for _, e := range []api.Errno{api.OK, api.ErrArg, api.ErrHash, api.ErrForm, api.ErrKind, api.ErrShort, api.ErrLong} {
		if seen[e] < 20 {
			t.Errorf("%v %d times", e, seen[e])
		}
	}
}

// turned is p with a part that is another one.
func (h *hat) turned(t *testing.T, p parts) parts {
	c := h.below(len(p.schema))
	switch h.below(9) {
	case 0:
		return p.withHeader(func(head *api.Header) { head.Live += h.below(3) - 1 })
	case 1:
		return p.withHeader(func(head *api.Header) { head.Rows += h.below(3) - 1 })
	case 2:
		b := append(bytes.Clone(p.dead), 0)
		b[h.below(len(b))] ^= 1 << h.below(8)
		return p.withDead(b[:max(1, len(p.dead))]...)
	case 3:
		return p.withDead(make([]byte, h.below(4))...)
	case 4:
		return p.withZone(c, zoneOf([]api.Value{h.value(p.schema[c]), h.value(p.schema[c])}))
	case 5:
		return p.withHeader(func(head *api.Header) { head.Cols[c].Chunk[h.below(32)]++ })
	case 6:
		q := p.copied()
		q.schema[c] = h.column()
		return q
	case 7:
		if len(p.cols) == len(p.schema) {
			return p.of(h.places(len(p.cols))...)
		}
		return p
	}
	if len(p.cols) != len(p.schema) {
		return p
	}
	b := bytes.Clone(p.chunks[c])
	b[h.below(len(b))] ^= 1 << h.below(8)
	return p.withChunk(c, b)
}
