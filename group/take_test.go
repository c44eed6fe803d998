package group_test

import (
	"math"
	"slices"
	"testing"

	"estreat/api"
	"estreat/group"
	"estreat/num"
)

// wantTaken looks whether of b, from the place at on, the header is taken, so that the
// reader stands at the place behind.
func wantTaken(t *testing.T, b []byte, at int, s []api.Column, want api.Header, behind int) {
	t.Helper()
	r := num.NewReader(b)
	r.Take(at)
	got := group.TakeHeader(r, s)
	if e, place := r.Err(); e != api.OK || r.At() != behind {
		t.Errorf("error %v at %d; the reader stands at %d, want %d", e, place, r.At(), behind)
	}
	if !sameHeader(got, want) {
		t.Errorf("%v, want %v", got, want)
	}
}

// wantNotTaken looks whether of b, from the place at on, that error is told, with its
// place.
func wantNotTaken(t *testing.T, b []byte, at int, s []api.Column, want api.Errno, place int) {
	t.Helper()
	r := num.NewReader(b)
	r.Take(at)
	got := group.TakeHeader(r, s)
	if e, p := r.Err(); e != want || p != place {
		t.Errorf("of %d bytes: error %v at %d, want %v at %d", len(b), e, p, want, place)
	}
	if !isZero(got) || got.Cols != nil {
		t.Errorf("beside %v: %v", want, got)
	}
}

// laid is a header's form part by part, so that one of them can be another.
type laid struct {
	rows, live, dead []byte
	cols             []laidColumn
}

type laidColumn struct {
	nulls, some, least, greatest, chunk []byte
}

func laidOf(h api.Header) laid {
	l := laid{rows: varOf(uint64(h.Rows)), live: varOf(uint64(h.Live)), dead: h.Dead[:]}
	for _, c := range h.Cols {
		m := laidColumn{nulls: varOf(uint64(c.Zone.Nulls)), some: []byte{0}, chunk: c.Chunk[:]}
		if c.Zone.Some {
			m.some, m.least, m.greatest = []byte{1}, valueForm(c.Zone.Min), valueForm(c.Zone.Max)
		}
		l.cols = append(l.cols, m)
	}
	return l
}

// parts is all parts, one behind the other.
func (l *laid) parts() []*[]byte {
	p := []*[]byte{&l.rows, &l.live, &l.dead}
	for i := range l.cols {
		c := &l.cols[i]
		p = append(p, &c.nulls, &c.some, &c.least, &c.greatest, &c.chunk)
	}
	return p
}

func (l *laid) bytes() []byte {
	var b []byte
	for _, p := range l.parts() {
		b = append(b, *p...)
	}
	return b
}

// until is how many bytes are ahead of the part.
func (l *laid) until(part *[]byte) int {
	n := 0
	for _, p := range l.parts() {
		if p == part {
			break
		}
		n += len(*p)
	}
	return n
}

// two is a header of numbers and texts, of which none is nothing, and their schema.
func two() (api.Header, []api.Column) {
	return head(300, 200, span(0, number(-100), number(100)), span(0, text("a"), text("bc"))), []api.Column{ints(api.Auto), texts(api.Auto)}
}

// P18.2: TakeHeader

func TestTakeHeaderOfWhatIsPut(t *testing.T) {
	for _, h := range soundHeads() {
		b := group.PutHeader(h)
		wantTaken(t, b, 0, three(), h, len(b))
		behind := slices.Concat([]byte{7, 8, 9}, b, []byte{1, 2, 3})
		wantTaken(t, behind, 3, three(), h, 3+len(b))
	}
}

func TestTakeHeaderOfManyColumns(t *testing.T) {
	h := head(3, 2, slices.Repeat([]api.Zone{span(1, number(4), number(5))}, api.MaxCols)...)
	b := headerForm(h)
	wantTaken(t, b, 0, slices.Repeat([]api.Column{intsNull(api.Auto)}, api.MaxCols), h, len(b))
}

// The schema tells how many columns are taken: others stay behind.
func TestTakeHeaderOfOtherSchemas(t *testing.T) {
	h, s := two()
	b := headerForm(h)
	l := laidOf(h)
	fewer := h
	fewer.Cols = h.Cols[:1]
	wantTaken(t, b, 0, s[:1], fewer, l.until(&l.cols[1].nulls))
	wantNotTaken(t, b, 0, append(slices.Clone(s), ints(api.Auto)), api.ErrShort, len(b))
	wantNotTaken(t, b, 0, []api.Column{s[1], s[0]}, api.ErrForm, len(b))
}

func TestTakeHeaderOfNoColumn(t *testing.T) {
	h, _ := two()
	l := laidOf(h)
	h.Cols = nil
	wantTaken(t, l.bytes(), 0, nil, h, l.until(&l.cols[0].nulls))
	wantTaken(t, l.bytes(), 0, []api.Column{}, h, l.until(&l.cols[0].nulls))
	wantNotTaken(t, nil, 0, nil, api.ErrShort, 0)
	wantNotTaken(t, headerForm(head(0, 0)), 0, nil, api.ErrForm, 34)
	wantNotTaken(t, headerForm(head(1, 2)), 0, nil, api.ErrForm, 34)
}

// ends is at which place a part is told that ends too early: where what is taken
// begins.
func ends(l *laid, part *[]byte, cut int) int {
	at := l.until(part)
	for i := range l.cols {
		// A value's Kind is taken by itself.
		if c := &l.cols[i]; (part == &c.least || part == &c.greatest) && cut > 0 {
			return at + 1
		}
	}
	return at
}

func TestTakeHeaderOfBytesThatEndEarly(t *testing.T) {
	h, s := two()
	s = append(s, intsNull(api.Auto))
	h.Cols = append(h.Cols, api.ColHead{Zone: only(300), Chunk: api.Hash{1}})
	l := laidOf(h)
	all := l.bytes()
	seen := 0
	for _, part := range l.parts() {
		for cut := range *part {
			n := l.until(part) + cut
			wantNotTaken(t, all[:n], 0, s, api.ErrShort, ends(&l, part, cut))
			wantNotTaken(t, append([]byte{9, 9}, all[:n]...), 2, s, api.ErrShort, 2+ends(&l, part, cut))
			seen++
		}
	}
	if seen != len(all) {
		t.Errorf("%d of %d", seen, len(all))
	}
}

func TestTakeHeaderOfShortNumbersThatAreWrong(t *testing.T) {
	h, s := two()
	wrong := [][]byte{
		{0x80, 0}, {0xac, 0x82, 0}, {0xff, 0x80, 0x80, 0}, slices.Repeat([]byte{0x80}, 11), slices.Repeat([]byte{0xff}, 11),
		append(slices.Repeat([]byte{0xff}, 9), 2), append(slices.Repeat([]byte{0x80}, 9), 0x7f), append(slices.Repeat([]byte{0x80}, 10), 1),
	}
	for _, b := range wrong {
		l := laidOf(h)
		for _, part := range []*[]byte{&l.rows, &l.live, &l.cols[0].nulls, &l.cols[1].nulls} {
			right := *part
			*part = b
			wantNotTaken(t, l.bytes(), 0, s, api.ErrForm, l.until(part))
			*part = right
		}
		for _, part := range []*[]byte{&l.cols[0].least, &l.cols[0].greatest} {
			right := *part
			*part = append([]byte{1}, b...)
			wantNotTaken(t, l.bytes(), 0, s, api.ErrForm, l.until(part)+1)
			*part = right
		}
		for _, part := range []*[]byte{&l.cols[1].least, &l.cols[1].greatest} {
			right := *part
			*part = append([]byte{2}, b...)
			wantNotTaken(t, l.bytes(), 0, s, api.ErrForm, l.until(part)+1)
			*part = right
		}
	}
}

func TestTakeHeaderOfAByteAboveOne(t *testing.T) {
	h, s := two()
	for _, b := range []byte{2, 3, 4, 127, 128, 129, 254, 255} {
		for i := range h.Cols {
			l := laidOf(h)
			some := &l.cols[i].some
			*some = []byte{b}
			wantNotTaken(t, l.bytes(), 0, s, api.ErrForm, l.until(some)+1)
			wantNotTaken(t, l.bytes()[:l.until(some)+1], 0, s, api.ErrForm, l.until(some)+1)
		}
	}
}

func TestTakeHeaderOfKindsThatAreNone(t *testing.T) {
	h, s := two()
	for _, kind := range []byte{3, 4, 5, 127, 128, 129, 130, 255} {
		for i := range h.Cols {
			l := laidOf(h)
			for _, part := range []*[]byte{&l.cols[i].least, &l.cols[i].greatest} {
				right := *part
				*part = append([]byte{kind}, right[1:]...)
				wantNotTaken(t, l.bytes(), 0, s, api.ErrForm, l.until(part)+1)
				wantNotTaken(t, l.bytes()[:l.until(part)+1], 0, s, api.ErrForm, l.until(part)+1)
				*part = right
			}
		}
	}
}

func TestTakeHeaderOfTextsThatAreTooLong(t *testing.T) {
	h, s := two()
	for _, n := range []int{api.MaxText + 1, 1 << 20, math.MaxInt} {
		l := laidOf(h)
		for _, part := range []*[]byte{&l.cols[1].least, &l.cols[1].greatest} {
			right := *part
			*part = append([]byte{2}, varOf(uint64(n))...)
			wantNotTaken(t, l.bytes(), 0, s, api.ErrLimit, l.until(part)+1)
			*part = right
		}
	}
	l := laidOf(h)
	l.cols[1].greatest = valueForm(text(long(api.MaxText + 1)))
	wantNotTaken(t, l.bytes(), 0, s, api.ErrLimit, l.until(&l.cols[1].greatest)+1)
	l.cols[1].greatest = valueForm(text(long(api.MaxText)))
	h.Cols[1].Zone.Max = text(long(api.MaxText))
	wantTaken(t, l.bytes(), 0, s, h, len(l.bytes()))
	// Also where no text may stand.
	l = laidOf(h)
	l.cols[0].least = valueForm(text(long(api.MaxText + 1)))
	wantNotTaken(t, l.bytes(), 0, s, api.ErrLimit, l.until(&l.cols[0].least)+1)
}

// wantUnsound looks whether the header's form is told at its end, whatever is behind it.
func wantUnsound(t *testing.T, h api.Header, s []api.Column) {
	t.Helper()
	wantSound(t, h, s, false)
	b := headerForm(h)
	wantNotTaken(t, b, 0, s, api.ErrForm, len(b))
	wantNotTaken(t, slices.Concat([]byte{5}, b, []byte{0xff, 0xff}), 1, s, api.ErrForm, 1+len(b))
}

func TestTakeHeaderOfHeadersThatAreNotSound(t *testing.T) {
	z := span(0, number(1), number(2))
	for _, rows := range []int{0, api.MaxRows + 1, 1 << 31, 1 << 32, 1<<32 + 1, math.MaxInt, -1, math.MinInt, math.MinInt + 1} {
		for _, live := range []int{0, 1, rows} {
			wantUnsound(t, head(rows, live, z), one())
		}
	}
	for _, live := range []int{10, 11, 1 << 16, 1 << 32, math.MaxInt, -1, -9, math.MinInt} {
		wantUnsound(t, head(9, live, z), one())
	}
	for _, z := range putZones(unsoundZones()) {
		s := []api.Column{ints(api.Auto), intsNull(api.Runs), textsNull(api.Auto)}
		wantUnsound(t, head(9, 9, span(0, number(1), number(2)), z, only(9)), s)
		wantUnsound(t, head(9, 9, z, only(9), only(9)), []api.Column{intsNull(api.Auto), intsNull(api.Runs), textsNull(api.Auto)})
	}
	for _, z := range putZones(unsoundTextZones()) {
		wantUnsound(t, head(9, 9, z), []api.Column{textsNull(api.Auto)})
	}
	for _, nulls := range []int{1, 8} {
		wantUnsound(t, head(9, 9, span(nulls, number(1), number(2))), one())
	}
	wantUnsound(t, head(9, 9, only(9)), one())
	wantUnsound(t, head(9, 9, only(9)), []api.Column{texts(api.Auto)})
}

// putZones is those zones that are taken as they were put: whose values may be read,
// and that have no values without others.
func putZones(l []api.Zone) []api.Zone {
	return slices.DeleteFunc(l, func(z api.Zone) bool {
		return !readable(z.Min) || !readable(z.Max) || !z.Some && (z.Min != nothing || z.Max != nothing)
	})
}

func readable(v api.Value) bool {
	return v == nothing || stands(v, v.Kind)
}

// The first of several faults is told.
func TestTakeHeaderTellsTheFirstFault(t *testing.T) {
	h, s := two()
	faults := func(l *laid) []func() (at int) {
		turn := func(part *[]byte, b []byte, behind int) func() int {
			return func() int {
				*part = b
				return l.until(part) + behind
			}
		}
		wrong := []byte{0x80, 0}
		return []func() int{
			turn(&l.rows, wrong, 0), turn(&l.live, wrong, 0), turn(&l.cols[0].nulls, wrong, 0), turn(&l.cols[0].some, []byte{2}, 1), turn(&l.cols[0].least, []byte{3}, 1), turn(&l.cols[0].greatest, []byte{3}, 1),
			turn(&l.cols[1].nulls, wrong, 0), turn(&l.cols[1].some, []byte{2}, 1), turn(&l.cols[1].least, []byte{3}, 1), turn(&l.cols[1].greatest, []byte{3}, 1),
		}
	}
	for i := range faults(&laid{cols: make([]laidColumn, 2)}) {
		for j := range i {
			l := laidOf(h)
			f := faults(&l)
			f[i]()
			at := f[j]()
			wantNotTaken(t, l.bytes(), 0, s, api.ErrForm, at)
		}
		// Ahead of bytes that end behind it, and of a header that isn't sound.
		l := laidOf(head(0, 400, h.Cols[0].Zone, h.Cols[1].Zone))
		at := faults(&l)[i]()
		wantNotTaken(t, l.bytes(), 0, s, api.ErrForm, at)
		wantNotTaken(t, l.bytes()[:at+2], 0, s, api.ErrForm, at)
	}
}

func TestTakeHeaderOfReadersThatFailed(t *testing.T) {
	h, s := two()
	b := headerForm(h)
	for _, e := range []api.Errno{api.ErrHash, api.ErrArg, api.ErrLong} {
		r := num.NewReader(append([]byte{1}, b...))
		r.Take(1)
		r.Fail(e)
		if got := group.TakeHeader(r, s); !isZero(got) {
			t.Error(got)
		}
		if got := group.TakeHeader(r, nil); !isZero(got) {
			t.Error(got)
		}
		if got, at := r.Err(); got != e || at != 1 || r.At() != 1 {
			t.Error(got, at, r.At())
		}
	}
	if got := group.TakeHeader(nil, s); !isZero(got) {
		t.Error(got)
	}
	if got := group.TakeHeader(nil, nil); !isZero(got) {
		t.Error(got)
	}
}

// Few bytes don't make many columns, however many the schema has.
func TestTakeHeaderOfAHugeSchema(t *testing.T) {
	s := make([]api.Column, 1<<24)
	b := headerForm(head(1, 1, only(1), only(1)))
	wantNotTaken(t, b, 0, s, api.ErrShort, len(b))
}

// takenBy is what TakeHeader answers by the words of the document: the header, or the
// error and its place.
func takenBy(b []byte, s []api.Column) (h api.Header, e api.Errno, at int) {
	short := func() int {
		v, n := uint64(0), 0
		for {
			switch {
			case e != api.OK:
				return 0
			case at+n >= len(b):
				e = api.ErrShort
				return 0
			}
			c := b[at+n]
			if n > 0 && c == 0 || n == 9 && c&0x7f > 1 || n == 10 {
				e = api.ErrForm
				return 0
			}
			v += uint64(c&0x7f) << (7 * n)
			n++
			if c < 0x80 {
				at += n
				return int(v)
			}
		}
	}
	some := func(n int) []byte {
		if e == api.OK && n > len(b)-at {
			e = api.ErrShort
		}
		if e != api.OK {
			return make([]byte, n)
		}
		at += n
		return b[at-n : at]
	}
	ofValue := func() (v api.Value) {
		v.Kind = int(some(1)[0])
		switch {
		case e != api.OK:
		case v.Kind > api.KText:
			e = api.ErrForm
		case v.Kind == api.KInt:
			v.N = num.Zag(uint64(short()))
		case v.Kind == api.KText:
			from := at
			n := short()
			if e == api.OK && (n < 0 || n > api.MaxText) {
				e = api.ErrLimit
			}
			if e == api.OK && n <= len(b)-at {
				v.S = string(some(n))
			} else if e == api.OK {
				e = api.ErrShort
			}
			if e != api.OK {
				at = from
			}
		}
		return v
	}
	h.Rows, h.Live, h.Dead = short(), short(), api.Hash(some(32))
	for range s {
		z := api.Zone{Nulls: short()}
		others := some(1)[0]
		if e == api.OK && others > 1 {
			e = api.ErrForm
		}
		if others == 1 {
			z.Some, z.Min, z.Max = true, ofValue(), ofValue()
		}
		h.Cols = append(h.Cols, api.ColHead{Zone: z, Chunk: api.Hash(some(32))})
	}
	if e == api.OK && !soundBy(h, s) {
		e = api.ErrForm
	}
	if e != api.OK {
		return api.Header{}, e, at
	}
	return h, e, at
}

// wantAsBy looks whether TakeHeader answers as by the words of the document.
func wantAsBy(t *testing.T, b []byte, s []api.Column) (e api.Errno) {
	t.Helper()
	h, e, at := takenBy(b, s)
	if e == api.OK {
		wantTaken(t, b, 0, s, h, at)
	} else {
		wantNotTaken(t, b, 0, s, e, at)
	}
	return e
}

// Of what is turned, cut or put between in a header's form, and of any bytes.
func TestTakeHeaderOfAnyBytes(t *testing.T) {
	told := map[api.Errno]int{}
	for i := range 3000 {
		p := hat(i * 300)
		s := p.schema()
		rows := p.rows(s, 1+p.below(9))
		b := headerForm(partsOf(t, s, rows).header)
		switch p.below(5) {
		case 0:
			b[p.below(len(b))] ^= 1 << p.below(8)
		case 1:
			b = b[:p.below(len(b)+1)]
		case 2:
			b = slices.Insert(b, p.below(len(b)), byte(p.below(256)))
		case 3:
			// Digests are many bytes, and any: so what is between them is turned alone.
			b[min(34*(1+p.below(len(s)))+p.below(4), len(b)-1)] = byte(p.below(4))
		}
		if p.below(4) == 0 {
			s = p.schema()
		}
		told[wantAsBy(t, b, s)]++
	}
	for i := range 3000 {
		p := hat(i * 500)
		b := []byte{byte(1 + p.below(3)), byte(p.below(3))}
		b = append(b, make([]byte, 32)...)
		for range p.below(120) {
			b = append(b, byte(p.below(4)))
		}
		told[wantAsBy(t, b, p.schema())]++
	}
	for _, e := range []api.Errno{api.OK, api.ErrShort, api.ErrForm} {
		if told[e] < 50 {
			t.Errorf("%v %d times", e, told[e])
		}
	}
}
