package chunk_test

import (
	"bytes"
	"math"
	"slices"
	"strings"
	"testing"

	"estreat/api"
	"estreat/chunk"
	"estreat/delta"
	"estreat/dict"
	"estreat/fore"
	"estreat/plain"
	"estreat/runs"
	"estreat/texts"
)

var nothing = api.Value{}

func number(n int64) api.Value { return api.Value{Kind: api.KInt, N: n} }

func text(s string) api.Value { return api.Value{Kind: api.KText, S: s} }

func numbers(l ...int64) []api.Value {
	out := make([]api.Value, len(l))
	for i, n := range l {
		out[i] = number(n)
	}
	return out
}

func textsOf(l ...string) []api.Value {
	out := make([]api.Value, len(l))
	for i, s := range l {
		out[i] = text(s)
	}
	return out
}

func often(v api.Value, n int) []api.Value {
	return slices.Repeat([]api.Value{v}, n)
}

// long is a text of so many bytes, of which first and last are unlike.
func long(n int) string {
	return "l" + strings.Repeat("o", n-2) + "g"
}

// waysOf is the ways of a kind, by the words of the document.
func waysOf(kind int) []int {
	if kind == api.KInt {
		return []int{0, 1, 2, 3, 4}
	}
	return []int{5}
}

func kinds() []int { return []int{api.KInt, api.KText} }

// oddNumbers are numbers that are no kinds, ways or counts.
func oddNumbers() []int {
	return []int{-2, -3, -256, -1 << 31, -1 << 32, -1<<32 + 1, -1<<32 - 1, math.MinInt, math.MinInt + 1, 6, 7, 8, 255, 256, 257, 258, 1<<16 + 1, 1 << 31, 1 << 32, 1<<32 + 1, 1<<32 + 2, 1<<32 + 5, math.MaxInt - 1, math.MaxInt}
}

// chance is a number that looks like any other, the same at each call.
func chance(i int) uint64 {
	v := uint64(i+1) * 6364136223846793005
	v ^= v >> 29
	v *= 2862933555777941757
	return v ^ v>>32
}

// some is n values of the kind, of which some are alike, some great and some
// small, others from seed to seed.
func some(kind, n, seed int) []api.Value {
	l := make([]api.Value, n)
	for i := range l {
		v := chance(i*31 + seed*1009)
		if kind == api.KInt {
			l[i] = number(int64(chance(int(v%7)+seed)) >> (v >> 9 % 60))
			continue
		}
		l[i] = text(strings.Repeat(string([]byte{byte(v % 5 * 60)}), int(v>>20%4)))
	}
	return l
}

// kindsOfLists is lists of n values of the kind: all alike, rising, near each
// other, and mixed.
func kindsOfLists(kind, n int) [][]api.Value {
	l := [][]api.Value{some(kind, n, 1), some(kind, n, 2), some(kind, n, 3)}
	up, near := make([]api.Value, n), make([]api.Value, n)
	for i := range n {
		if kind == api.KInt {
			up[i], near[i] = number(int64(i)*3-50), number(1<<40+int64(chance(i)%200))
			continue
		}
		up[i], near[i] = text(string([]byte{'u', byte(i >> 8), byte(i)})), text(string([]byte{'n', byte(chance(i) % 200)}))
	}
	if kind == api.KInt {
		return append(l, up, near, often(number(-7), n), often(number(math.MinInt64), n))
	}
	return append(l, up, near, often(text(""), n), often(text("same"), n))
}

// without is l with nothing at these places.
func without(l []api.Value, places ...int) []api.Value {
	l = slices.Clone(l)
	for _, i := range places {
		l[i] = nothing
	}
	return l
}

// holed is l, and l with nothing first, last, between, but for the first, but for
// the last, at each second place, here and there, and everywhere.
func holed(l []api.Value) [][]api.Value {
	n := len(l)
	if n == 0 {
		return [][]api.Value{l}
	}
	var all, second, here []int
	for i := range n {
		all = append(all, i)
		if i%2 == 1 {
			second = append(second, i)
		}
		if chance(i)%5 < 2 {
			here = append(here, i)
		}
	}
	return [][]api.Value{
		l, without(l, 0), without(l, n-1), without(l, n/2), without(l, 0, n-1), without(l, all[1:]...), without(l, all[:n-1]...),
		without(l, second...), without(l, here...), without(l, all...),
	}
}

// parted is which places are nothing, and the other values.
func parted(l []api.Value) ([]int, []api.Value) {
	var places []int
	var others []api.Value
	for i, v := range l {
		if v == nothing {
			places = append(places, i)
		} else {
			others = append(others, v)
		}
	}
	return places, others
}

// setOf is the bytes of a set of n places.
func setOf(n int, places ...int) []byte {
	b := make([]byte, (n+7)/8)
	for _, i := range places {
		b[i/8] |= 1 << (i % 8)
	}
	return b
}

// inWay is the way's form of values that are something.
func inWay(l []api.Value, way int) []byte {
	ns := make([]int64, len(l))
	ss := make([]string, len(l))
	for i, v := range l {
		ns[i], ss[i] = v.N, v.S
	}
	var b []byte
	switch way {
	case 0:
		b, _ = plain.Put(ns)
	case 1:
		b, _ = runs.Put(ns)
	case 2:
		b, _ = delta.Put(ns)
	case 3:
		b, _ = dict.Put(ns)
	case 4:
		b, _ = fore.Put(ns)
	case 5:
		b, _ = texts.Put(ss)
	}
	return b
}

// outOfWay is what the way's Get answers, as values.
func outOfWay(b []byte, way, n int) ([]api.Value, api.Errno) {
	var ns []int64
	var e api.Errno
	switch way {
	case 0:
		ns, e = plain.Get(b, n)
	case 1:
		ns, e = runs.Get(b, n)
	case 2:
		ns, e = delta.Get(b, n)
	case 3:
		ns, e = dict.Get(b, n)
	case 4:
		ns, e = fore.Get(b, n)
	case 5:
		ss, e := texts.Get(b, n)
		return textsOf(ss...), e
	}
	return numbers(ns...), e
}

// head is what a chunk of n values has ahead of its way, with nothing at these
// places.
func head(n int, places ...int) []byte {
	if len(places) == 0 {
		return []byte{0}
	}
	return append([]byte{1}, setOf(n, places...)...)
}

// laid is the chunk of l by the words of the document.
func laid(l []api.Value, way int) []byte {
	places, others := parted(l)
	return join(head(len(l), places...), []byte{byte(way)}, inWay(others, way))
}

// read is what Get answers by the words of the document, and the chunk's way.
func read(b []byte, kind, n int) (l []api.Value, way int, e api.Errno) {
	if kind != 1 && kind != 2 || n < 0 || n > 65536 {
		return nil, -1, api.ErrArg
	}
	if len(b) == 0 {
		return nil, -1, api.ErrShort
	}
	if b[0] > 1 {
		return nil, -1, api.ErrForm
	}
	isNothing := map[int]int{}
	at := 1
	if b[0] == 1 {
		size := (n + 7) / 8
		if len(b) < 1+size {
			return nil, -1, api.ErrShort
		}
		for i := range 8 * size {
			if b[1+i/8]>>(i%8)&1 == 1 {
				isNothing[i] = 1
				if i >= n {
					return nil, -1, api.ErrForm
				}
			}
		}
		if len(isNothing) == 0 {
			return nil, -1, api.ErrForm
		}
		at += size
	}
	if len(b) == at {
		return nil, -1, api.ErrShort
	}
	way = int(b[at])
	if !slices.Contains(waysOf(kind), way) {
		return nil, -1, api.ErrKind
	}
	others, e := outOfWay(b[at+1:], way, n-len(isNothing))
	if e != api.OK {
		return nil, -1, e
	}
	for i := range n {
		if isNothing[i] == 1 {
			l = append(l, nothing)
			continue
		}
		l = append(l, others[0])
		others = others[1:]
	}
	return l, way, api.OK
}

// join is all parts, one behind the other, in new memory.
func join(parts ...[]byte) []byte {
	return bytes.Join(parts, nil)
}

// wantPut looks whether want is what Put answers.
func wantPut(t *testing.T, l []api.Value, kind, way int, want []byte) {
	t.Helper()
	b, e := chunk.Put(l, kind, way)
	if e != api.OK || !bytes.Equal(b, want) {
		t.Fatalf("%d values %.9v, kind %d, way %d: %.40x, error %d, not %.40x", len(l), l, kind, way, b, e, want)
	}
}

// wantPutErr looks whether that is Put's error, and, if the way is Auto, whether
// Best tells that, too.
func wantPutErr(t *testing.T, l []api.Value, kind, way int, want api.Errno) {
	t.Helper()
	if b, e := chunk.Put(l, kind, way); e != want || len(b) != 0 {
		t.Fatalf("%d values, kind %d, way %d: %d bytes, error %d, not %d", len(l), kind, way, len(b), e, want)
	}
	if way == api.Auto {
		wantBest(t, l, kind, api.Auto)
	}
}

func wantBest(t *testing.T, l []api.Value, kind, want int) {
	t.Helper()
	if way := chunk.Best(l, kind); way != want {
		t.Fatalf("%d values %.9v, kind %d: best way %d, not %d", len(l), l, kind, way, want)
	}
}

func wantGet(t *testing.T, b []byte, kind, n int, want []api.Value) {
	t.Helper()
	l, e := chunk.Get(b, kind, n)
	if e != api.OK || len(l) != n || !slices.Equal(l, want) {
		t.Fatalf("%d of %.40x, kind %d: %d values %.9v, error %d, not %.9v", n, b, kind, len(l), l, e, want)
	}
}

func wantGetErr(t *testing.T, b []byte, kind, n int, want api.Errno) {
	t.Helper()
	if l, e := chunk.Get(b, kind, n); e != want || len(l) != 0 {
		t.Fatalf("%d of %d bytes %.40x, kind %d: %d values %.9v, error %d, not %d", n, len(b), b, kind, len(l), l, e, want)
	}
}

func wantWay(t *testing.T, b []byte, want int) {
	t.Helper()
	if way := chunk.Way(b); way != want {
		t.Fatalf("%.40x: way %d, not %d", b, way, want)
	}
}

// both looks whether l is put as b in that way, and b is read as l.
func both(t *testing.T, l []api.Value, kind, way int, b []byte) {
	t.Helper()
	wantPut(t, l, kind, way, b)
	wantGet(t, b, kind, len(l), l)
	if b[0] == 0 {
		wantWay(t, b, way)
	} else {
		wantWay(t, b, -1)
	}
}

// inAllWays looks whether l is put and read by the words of the document in each
// way, and by itself in the one that has the fewest bytes, the first of those that
// have as many.
func inAllWays(t *testing.T, l []api.Value, kind int) {
	t.Helper()
	best, fewest := api.Auto, []byte(nil)
	for _, way := range waysOf(kind) {
		b := laid(l, way)
		both(t, l, kind, way, b)
		if best == api.Auto || len(b) < len(fewest) {
			best, fewest = way, b
		}
	}
	wantBest(t, l, kind, best)
	wantPut(t, l, kind, api.Auto, fewest)
}

// wantAny looks whether Get answers what the words of the document say, and if
// that is values, whether they are put in their way as they were.
func wantAny(t *testing.T, b []byte, kind, n int) {
	t.Helper()
	want, way, e := read(b, kind, n)
	if e != api.OK {
		wantGetErr(t, b, kind, n, e)
		return
	}
	both(t, want, kind, way, b)
}

// The document's example.

func TestExample(t *testing.T) {
	both(t, []api.Value{nothing, number(3)}, api.KInt, api.Plain, []byte{1, 1, 0, 6})
}

// P14.1: Put

func TestNone(t *testing.T) {
	for _, l := range [][]api.Value{nil, {}, make([]api.Value, 0, 10), numbers(1, 2)[:0], textsOf("a")[:0]} {
		both(t, l, api.KInt, api.Plain, []byte{0, 0})
		both(t, l, api.KInt, api.Runs, []byte{0, 1})
		both(t, l, api.KInt, api.Delta, []byte{0, 2})
		both(t, l, api.KInt, api.Dict, []byte{0, 3, 0, 0})
		both(t, l, api.KInt, api.Fore, []byte{0, 4})
		both(t, l, api.KText, api.Texts, []byte{0, 5, 0, 0})
		wantPut(t, l, api.KInt, api.Auto, []byte{0, 0})
		wantPut(t, l, api.KText, api.Auto, []byte{0, 5, 0, 0})
	}
}

func TestOne(t *testing.T) {
	five := numbers(5)
	both(t, five, api.KInt, api.Plain, []byte{0, 0, 10})
	both(t, five, api.KInt, api.Runs, []byte{0, 1, 0, 10})
	both(t, five, api.KInt, api.Delta, []byte{0, 2, 10})
	both(t, five, api.KInt, api.Dict, []byte{0, 3, 1, 10, 0})
	both(t, five, api.KInt, api.Fore, []byte{0, 4, 10, 0})
	wantPut(t, five, api.KInt, api.Auto, []byte{0, 0, 10})
	for _, x := range []struct {
		s string
		b []byte
	}{{"a", []byte{0, 5, 1, 1, 'a', 0}}, {"", []byte{0, 5, 1, 0, 0}}, {"\xff\x00", []byte{0, 5, 1, 2, 0xff, 0, 0}}} {
		both(t, textsOf(x.s), api.KText, api.Texts, x.b)
		wantPut(t, textsOf(x.s), api.KText, api.Auto, x.b)
	}
	for _, n := range []int64{0, 1, -1, 63, 64, -64, -65, 1 << 31, -1 << 31, 1 << 32, math.MaxInt64, math.MinInt64} {
		inAllWays(t, numbers(n), api.KInt)
	}
}

func TestOneThatIsNothing(t *testing.T) {
	one := []api.Value{nothing}
	both(t, one, api.KInt, api.Plain, []byte{1, 1, 0})
	both(t, one, api.KInt, api.Runs, []byte{1, 1, 1})
	both(t, one, api.KInt, api.Delta, []byte{1, 1, 2})
	both(t, one, api.KInt, api.Dict, []byte{1, 1, 3, 0, 0})
	both(t, one, api.KInt, api.Fore, []byte{1, 1, 4})
	both(t, one, api.KText, api.Texts, []byte{1, 1, 5, 0, 0})
	wantPut(t, one, api.KInt, api.Auto, []byte{1, 1, 0})
	wantPut(t, one, api.KText, api.Auto, []byte{1, 1, 5, 0, 0})
}

// The documents' examples of the layers below, and these with nothing first, last
// and between.
func TestSome(t *testing.T) {
	x, o := nothing, number
	both(t, numbers(-1, 300), api.KInt, api.Plain, []byte{0, 0, 1, 0xd8, 4})
	both(t, numbers(5, 5, 5), api.KInt, api.Runs, []byte{0, 1, 2, 10})
	both(t, numbers(10, 11, 13), api.KInt, api.Delta, []byte{0, 2, 0x14, 3, 0x22})
	both(t, numbers(7, 5, 7), api.KInt, api.Dict, []byte{0, 3, 2, 10, 1, 1, 5})
	both(t, numbers(100, 103, 101), api.KInt, api.Fore, []byte{0, 4, 0xc8, 1, 2, 0x1c})
	both(t, textsOf("b", "a", "b"), api.KText, api.Texts, []byte{0, 5, 2, 1, 'a', 1, 'b', 1, 5})

	both(t, []api.Value{o(-1), x, o(300)}, api.KInt, api.Plain, []byte{1, 2, 0, 1, 0xd8, 4})
	both(t, []api.Value{o(5), x, o(5), x, x, o(5)}, api.KInt, api.Runs, []byte{1, 0x1a, 1, 2, 10})
	both(t, []api.Value{x, x, o(10), o(11), x, o(13), x, x}, api.KInt, api.Delta, []byte{1, 0xd3, 2, 0x14, 3, 0x22})
	both(t, []api.Value{o(7), o(5), o(7), x, x, x, x, x, x}, api.KInt, api.Dict, []byte{1, 0xf8, 1, 3, 2, 10, 1, 1, 5})
	both(t, []api.Value{x, x, x, x, x, x, x, o(100), o(103), x, o(101)}, api.KInt, api.Fore, []byte{1, 0x7f, 2, 4, 0xc8, 1, 2, 0x1c})
	both(t, []api.Value{x, text("b"), text("a"), x, text("b")}, api.KText, api.Texts, []byte{1, 9, 5, 2, 1, 'a', 1, 'b', 1, 5})
	both(t, []api.Value{text(""), x, text("")}, api.KText, api.Texts, []byte{1, 2, 5, 1, 0, 0})
	both(t, []api.Value{o(0), x, o(0)}, api.KInt, api.Plain, []byte{1, 2, 0, 0, 0})
}

// Of each count around those at which a set has a further byte.
func TestEachCount(t *testing.T) {
	for _, n := range []int{1, 2, 3, 4, 5, 6, 7, 8, 9, 10, 14, 15, 16, 17, 18, 23, 24, 25, 31, 32, 33, 63, 64, 65, 255, 256, 257, 1000} {
		for _, kind := range kinds() {
			for _, l := range kindsOfLists(kind, n) {
				for _, h := range holed(l) {
					inAllWays(t, h, kind)
				}
			}
		}
	}
}

// Nothing at each place alone, and everywhere but at one.
func TestEachPlace(t *testing.T) {
	for _, n := range []int{1, 2, 7, 8, 9, 15, 16, 17} {
		for _, kind := range kinds() {
			l := some(kind, n, 5)
			for i := range n {
				inAllWays(t, without(l, i), kind)
				one := often(nothing, n)
				one[i] = l[i]
				inAllWays(t, one, kind)
			}
		}
	}
}

// All that are nothing have a set of which all places are marked, and the form of
// no values.
func TestAllNothing(t *testing.T) {
	for _, n := range []int{1, 2, 7, 8, 9, 15, 16, 17, 1000, api.MaxRows - 1, api.MaxRows} {
		set := bytes.Repeat([]byte{255}, (n+7)/8)
		if n%8 > 0 {
			set[n/8] = 1<<(n%8) - 1
		}
		l := often(nothing, n)
		for _, way := range []int{0, 1, 2, 4} {
			both(t, l, api.KInt, way, join([]byte{1}, set, []byte{byte(way)}))
		}
		both(t, l, api.KInt, api.Dict, join([]byte{1}, set, []byte{3, 0, 0}))
		both(t, l, api.KText, api.Texts, join([]byte{1}, set, []byte{5, 0, 0}))
		inAllWays(t, l, api.KInt)
		inAllWays(t, l, api.KText)
	}
}

func TestMost(t *testing.T) {
	for _, kind := range kinds() {
		inAllWays(t, some(kind, api.MaxRows-1, 1), kind)
		for i, l := range kindsOfLists(kind, api.MaxRows) {
			inAllWays(t, l, kind)
			for k, h := range holed(l)[1:] {
				if way := (i + k) % 6; slices.Contains(waysOf(kind), way) {
					both(t, h, kind, way, laid(h, way))
				}
			}
		}
	}
}

func TestBeyondMost(t *testing.T) {
	for _, n := range []int{api.MaxRows + 1, api.MaxRows + 2, 2*api.MaxRows + 5} {
		for _, l := range [][]api.Value{make([]api.Value, n), often(number(3), n), often(text("a"), n), often(text(long(api.MaxText+1)), n), often(api.Value{Kind: 9}, n), some(api.KInt, n, 1)} {
			for _, kind := range kinds() {
				for _, way := range append(waysOf(kind), api.Auto) {
					wantPutErr(t, l, kind, way, api.ErrLimit)
				}
			}
		}
	}
}

// A text that is too long, wherever among others it stands.
func TestLongTexts(t *testing.T) {
	top := long(api.MaxText)
	both(t, textsOf(top), api.KText, api.Texts, join([]byte{0, 5, 1, 0x80, 0x80, 4}, []byte(top), []byte{0}))
	for i := range 6 {
		l := slices.Insert(textsOf("a", "z", "", "q", "b"), i, text(top))
		for _, h := range holed(l) {
			inAllWays(t, h, api.KText)
		}
		for _, n := range []int{api.MaxText + 1, api.MaxText + 2, 2 * api.MaxText, 1 << 20} {
			l[i] = text(long(n))
			for _, h := range [][]api.Value{l, without(l, (i+1)%6), without(l, (i+1)%6, (i+5)%6)} {
				wantPutErr(t, h, api.KText, api.Texts, api.ErrLimit)
				wantPutErr(t, h, api.KText, api.Auto, api.ErrLimit)
			}
			inAllWays(t, without(l, i), api.KText)
		}
	}
	for _, n := range []int{1, 100, api.MaxRows - 1} {
		l := append(often(text("a"), n), text(long(api.MaxText+1)))
		wantPutErr(t, l, api.KText, api.Auto, api.ErrLimit)
		slices.Reverse(l)
		wantPutErr(t, l, api.KText, api.Texts, api.ErrLimit)
		inAllWays(t, l[1:], api.KText)
	}
}

// A kind that is none is told ahead of all else.
func TestPutNoKind(t *testing.T) {
	for _, kind := range append(oddNumbers(), api.KNull, -1, 3, 4, 5) {
		for _, l := range [][]api.Value{nil, {nothing}, {number(1)}, {text("a")}, {{Kind: kind}}, {{Kind: kind, N: 1, S: "a"}}, {text(long(api.MaxText + 1))}, make([]api.Value, api.MaxRows+1)} {
			for way := -2; way < 8; way++ {
				wantPutErr(t, l, kind, way, api.ErrArg)
			}
		}
	}
}

// A way that is none of the kind is told ahead of all that is wrong with the
// values.
func TestPutNoWay(t *testing.T) {
	for _, kind := range kinds() {
		wrong := append(oddNumbers(), waysOf(api.KInt+api.KText-kind)...)
		for _, way := range wrong {
			for _, l := range [][]api.Value{nil, {nothing}, {number(1)}, {text("a")}, {{Kind: 9}}, {text(long(api.MaxText + 1))}, make([]api.Value, api.MaxRows+1), some(kind, 9, 1)} {
				wantPutErr(t, l, kind, way, api.ErrArg)
			}
		}
	}
}

// wrongFor is values that may not stand in a column of the kind.
func wrongFor(kind int) []api.Value {
	l := []api.Value{{N: 1}, {N: -1}, {N: math.MinInt64}, {S: "a"}, {S: "\x00"}, {N: 1, S: "a"}, {S: long(api.MaxText)}}
	for _, k := range append(oddNumbers(), -1, 3, 4, 5) {
		l = append(l, api.Value{Kind: k}, api.Value{Kind: k, N: 1}, api.Value{Kind: k, S: "a"})
	}
	if kind == api.KInt {
		return append(l, text("a"), text(""), text("7"), api.Value{Kind: api.KText, N: 7}, api.Value{Kind: api.KInt, N: 7, S: "a"}, api.Value{Kind: api.KInt, S: "\x00"}, api.Value{Kind: api.KInt, S: long(api.MaxText)})
	}
	return append(l, number(7), number(0), api.Value{Kind: api.KInt, S: "a"}, api.Value{Kind: api.KText, N: 7, S: "a"}, api.Value{Kind: api.KText, N: -1}, api.Value{Kind: api.KText, N: 1 << 32, S: "a"}, api.Value{Kind: api.KText, N: math.MinInt64})
}

func TestPutWrongValues(t *testing.T) {
	for _, kind := range kinds() {
		for _, v := range wrongFor(kind) {
			for _, way := range append(waysOf(kind), api.Auto) {
				wantPutErr(t, []api.Value{v}, kind, way, api.ErrKind)
				l := some(kind, 6, 1)
				for i := range 7 {
					wantPutErr(t, slices.Insert(slices.Clone(l), i, v), kind, way, api.ErrKind)
					wantPutErr(t, slices.Insert(often(nothing, 6), i, v), kind, way, api.ErrKind)
				}
				wantPutErr(t, slices.Repeat([]api.Value{v}, 3), kind, way, api.ErrKind)
			}
			wantPutErr(t, append(often(nothing, api.MaxRows-1), v), kind, api.Auto, api.ErrKind)
			wantPutErr(t, append(some(kind, api.MaxRows-1, 2), v), kind, waysOf(kind)[0], api.ErrKind)
		}
	}
}

// Of several refusals the one named first is answered: a limit ahead of a value
// that is wrong, in whatever order they stand.
func TestPutFirstError(t *testing.T) {
	tooLong := text(long(api.MaxText + 1))
	for _, kind := range kinds() {
		for _, way := range append(waysOf(kind), api.Auto) {
			for _, v := range wrongFor(kind) {
				wantPutErr(t, []api.Value{v, tooLong}, kind, way, api.ErrLimit)
				wantPutErr(t, []api.Value{tooLong, v}, kind, way, api.ErrLimit)
				wantPutErr(t, []api.Value{nothing, v, v, nothing, tooLong, v}, kind, way, api.ErrLimit)
			}
			wantPutErr(t, []api.Value{tooLong}, kind, way, api.ErrLimit)
			for _, k := range []int{api.KNull, api.KInt, api.KText, -1, 9} {
				wantPutErr(t, []api.Value{{Kind: k, N: 1, S: tooLong.S}}, kind, way, api.ErrLimit)
			}
		}
	}
}

// P14.1: Best

func TestBestOfFew(t *testing.T) {
	for _, n := range []int{0, 1, 2, 9, api.MaxRows} {
		wantBest(t, often(nothing, n), api.KInt, api.Plain)
		wantBest(t, often(nothing, n), api.KText, api.Texts)
	}
	wantBest(t, numbers(5), api.KInt, api.Plain)
	for _, l := range holed(textsOf("b", "a", "", "a")) {
		wantBest(t, l, api.KText, api.Texts)
	}
}

// Numbers, and which ways have the fewest bytes of them: the first one of these is
// the best, with and without values that are nothing.
func TestBestOfEach(t *testing.T) {
	step, near := make([]api.Value, 200), make([]api.Value, 200)
	for i := range step {
		step[i], near[i] = number(int64(i)*1000), number(1<<40+int64(chance(i)%256))
	}
	for _, x := range []struct {
		l    []api.Value
		ways []int
	}{
		{numbers(487828, 236006), []int{0}},
		{slices.Concat(often(number(5), 100), often(number(1<<40), 100)), []int{1}},
		{step, []int{2}},
		{slices.Repeat(numbers(-1<<40, 1<<50, 3), 50), []int{3}},
		{near, []int{4}},
		{numbers(11616946781, 11616946909, 11616946781), []int{2, 3, 4}},
		{numbers(7, 7, 7), []int{1, 2, 4}},
		{often(number(7), 129), []int{2, 4}},
		{numbers(3469, 1253, 1253), []int{0, 1}},
		{numbers(107), []int{0, 2}},
		{numbers(96315, 6646, 96315), []int{0, 3}},
		{numbers(65, 61), []int{0, 4}},
		{numbers(100, 100, 913), []int{0, 1, 2}},
		{numbers(8113, 8113, 24255), []int{0, 1, 2, 3}},
		{numbers(135, 135, 17), []int{0, 1, 2, 3, 4}},
		{numbers(1653, 1665), []int{0, 2, 4}},
		{numbers(280105, 259789, 259789), []int{1, 2}},
		{numbers(1763262, 1044988, 1044988), []int{1, 3}},
		{numbers(44, 44, 47, 47, 47, 47, 47), []int{1, 4}},
		{numbers(104, 104, 43, 43), []int{1, 3, 4}},
		{numbers(428684204403, 428684207066, 428684207066), []int{2, 3}},
		{numbers(232, 51, 232, 232), []int{3, 4}},
		{numbers(73, 73, 62), []int{4}},
	} {
		fewest := len(inWay(x.l, x.ways[0]))
		for way := range 5 {
			size := len(inWay(x.l, way))
			if slices.Contains(x.ways, way) != (size == fewest) || size < fewest {
				t.Fatalf("%.9v: %d bytes in way %d, %d in way %d", x.l, size, way, fewest, x.ways[0])
			}
		}
		wantBest(t, x.l, api.KInt, x.ways[0])
		inAllWays(t, x.l, api.KInt)
		holes := slices.Concat(often(nothing, 9), x.l, often(nothing, 3))
		wantBest(t, holes, api.KInt, x.ways[0])
		wantBest(t, slices.Insert(slices.Clone(x.l), len(x.l)/2, nothing), api.KInt, x.ways[0])
		inAllWays(t, holes, api.KInt)
	}
}

func TestBestOfAny(t *testing.T) {
	for i := range 6000 {
		l := some(api.KInt, i%23, i)
		for k := range l {
			if chance(i+k)%4 == 0 && i%3 == 0 {
				l[k] = nothing
			}
		}
		inAllWays(t, l, api.KInt)
	}
}

// P14.2: Get

// ErrArg comes ahead of all that is wrong with the bytes, and of bytes that are
// right but for their kind or their count.
func TestGetErrArg(t *testing.T) {
	all := [][]byte{
		nil, {}, {0}, {1}, {2}, {0, 0}, {0, 9}, {1, 0}, {1, 1, 0, 6}, {0, 5, 0, 0}, {0, 0, 10}, {0, 5, 1, 1, 'a', 0}, bytes.Repeat([]byte{255}, 20),
		laid(often(number(3), api.MaxRows+1), 0), laid(often(nothing, api.MaxRows+1), 0), laid(often(nothing, api.MaxRows+2), 5),
	}
	for _, b := range all {
		for _, kind := range append(oddNumbers(), api.KNull, -1, 3, 4, 5) {
			for _, n := range []int{0, 1, 2, api.MaxRows, -1, api.MaxRows + 1} {
				wantGetErr(t, b, kind, n, api.ErrArg)
			}
		}
		for _, kind := range kinds() {
			for _, n := range []int{-1, -2, -8, -9, -api.MaxRows, -1 << 32, math.MinInt, math.MinInt + 1, math.MinInt + 7, api.MaxRows + 1, api.MaxRows + 2, 2 * api.MaxRows, 1 << 32, 1<<32 + 1, 1 << 62, math.MaxInt - 8, math.MaxInt - 1, math.MaxInt} {
				wantGetErr(t, b, kind, n, api.ErrArg)
			}
		}
	}
}

func TestGetFirstByte(t *testing.T) {
	for _, kind := range kinds() {
		way := byte(waysOf(kind)[0])
		for _, n := range []int{0, 1, 2, 8, 9, api.MaxRows} {
			wantGetErr(t, nil, kind, n, api.ErrShort)
			wantGetErr(t, []byte{}, kind, n, api.ErrShort)
			wantGetErr(t, []byte{0}, kind, n, api.ErrShort)
			for first := 2; first < 256; first++ {
				for _, behind := range [][]byte{nil, {way}, {0}, {9}, {1, way}, {0, 0}, {0, way}, bytes.Repeat([]byte{255}, 9), inWay(some(kind, n%99, 1), int(way))} {
					wantGetErr(t, join([]byte{byte(first)}, behind), kind, n, api.ErrForm)
				}
			}
		}
	}
}

// A set that ends too early, by one byte or by all, and one behind which nothing
// is.
func TestGetShortSet(t *testing.T) {
	for _, kind := range kinds() {
		for _, n := range []int{1, 2, 7, 8, 9, 10, 15, 16, 17, 100, 1000, api.MaxRows - 1, api.MaxRows} {
			size := (n + 7) / 8
			for _, c := range []byte{0, 1, 255} {
				for _, have := range []int{0, 1, size / 2, size - 2, size - 1} {
					if have >= 0 && have < size {
						wantGetErr(t, join([]byte{1}, bytes.Repeat([]byte{c}, have)), kind, n, api.ErrShort)
					}
				}
			}
			for _, i := range []int{0, n / 2, n - 1} {
				wantGetErr(t, head(n, i), kind, n, api.ErrShort)
			}
		}
	}
}

// A set with a bit that is left, or without a mark, is told where it stands: ahead
// of what is behind it, if anything is.
func TestGetWrongSet(t *testing.T) {
	for _, kind := range kinds() {
		way := byte(waysOf(kind)[0])
		behinds := [][]byte{nil, {}, {way}, {9}, {255}, {way, 0}, {way, 255}, {0x80, 0}, bytes.Repeat([]byte{255}, 30)}
		for n := range 40 {
			for _, behind := range behinds {
				wantGetErr(t, join([]byte{1}, setOf(n), behind), kind, n, api.ErrForm)
			}
			for left := n; left%8 > 0; left++ {
				for _, behind := range behinds {
					wantGetErr(t, join([]byte{1}, setOf(n, left), behind), kind, n, api.ErrForm)
					wantGetErr(t, join([]byte{1}, setOf(n, 0, left), behind), kind, n, api.ErrForm)
				}
				l := without(some(kind, n, 1), n-1)
				b := laid(l, int(way))
				wantGet(t, b, kind, n, l)
				b[1+left/8] |= 1 << (left % 8)
				wantGetErr(t, b, kind, n, api.ErrForm)
			}
			l := some(kind, n, 1)
			wantGetErr(t, join([]byte{1}, setOf(n), laid(l, int(way))[1:]), kind, n, api.ErrForm)
		}
		for _, n := range []int{api.MaxRows - 1, api.MaxRows} {
			wantGetErr(t, join([]byte{1}, setOf(n)), kind, n, api.ErrForm)
			wantGetErr(t, join([]byte{1}, setOf(n), laid(some(kind, n, 1), int(way))[1:]), kind, n, api.ErrForm)
		}
		wantGetErr(t, join([]byte{1}, setOf(api.MaxRows-1, api.MaxRows-1), []byte{way}), kind, api.MaxRows-1, api.ErrForm)
	}
}

// A way that is none of the kind is told ahead of what is behind it, which may be
// its form.
func TestGetWrongWay(t *testing.T) {
	for _, kind := range kinds() {
		for _, n := range []int{0, 1, 2, 3, 8, 9, 17, 1000} {
			for way := range 256 {
				if slices.Contains(waysOf(kind), way) {
					continue
				}
				for _, l := range holed(some(api.KInt+api.KText-kind, n, 1)) {
					wantGetErr(t, laid(l, way), kind, n, api.ErrKind)
				}
				for _, l := range holed(some(kind, n, 1)) {
					places, others := parted(l)
					for _, behind := range [][]byte{nil, {0}, {0x80, 0}, bytes.Repeat([]byte{255}, 20), inWay(others, waysOf(kind)[0])} {
						wantGetErr(t, join(head(n, places...), []byte{byte(way)}, behind), kind, n, api.ErrKind)
					}
				}
			}
		}
	}
}

// What each way's own Get refuses, of so many values that are something: too few
// bytes, too many, and wrong ones; with and without values that are nothing.
func TestGetErrorsOfWays(t *testing.T) {
	for _, x := range []struct {
		way, n int
		b      []byte
		e      api.Errno
	}{
		{0, 0, []byte{0}, api.ErrLong}, {0, 1, nil, api.ErrShort}, {0, 2, []byte{0}, api.ErrShort}, {0, 1, []byte{0x80}, api.ErrShort}, {0, 1, []byte{0, 0}, api.ErrLong}, {0, 2, []byte{0x80, 0}, api.ErrForm},
		{1, 0, []byte{0, 0}, api.ErrLong}, {1, 1, nil, api.ErrShort}, {1, 1, []byte{0}, api.ErrShort}, {1, 3, []byte{1, 6}, api.ErrShort}, {1, 3, []byte{3, 6}, api.ErrRange}, {1, 3, []byte{0, 6, 1, 6}, api.ErrForm}, {1, 3, []byte{2, 6, 0}, api.ErrLong}, {1, 3, []byte{0x80, 0}, api.ErrForm},
		{2, 0, []byte{0}, api.ErrLong}, {2, 1, nil, api.ErrShort}, {2, 1, []byte{0, 0}, api.ErrLong}, {2, 2, []byte{0}, api.ErrShort}, {2, 2, []byte{0, 65}, api.ErrRange}, {2, 2, []byte{0, 1}, api.ErrShort}, {2, 2, []byte{0, 1, 0}, api.ErrForm}, {2, 2, []byte{0, 1, 3}, api.ErrForm}, {2, 2, []byte{0, 1, 1, 0}, api.ErrLong},
		{3, 0, nil, api.ErrShort}, {3, 0, []byte{0}, api.ErrShort}, {3, 0, []byte{0, 0, 0}, api.ErrLong}, {3, 0, []byte{1, 0, 0}, api.ErrRange}, {3, 1, []byte{0, 0}, api.ErrRange}, {3, 1, []byte{1, 0, 1}, api.ErrForm}, {3, 2, []byte{3}, api.ErrRange}, {3, 2, []byte{2, 0, 0, 1}, api.ErrShort}, {3, 2, []byte{2, 0, 0, 1, 0}, api.ErrForm}, {3, 3, []byte{3, 0, 0, 0, 2, 0xff}, api.ErrForm}, {3, 3, []byte{3, 0, 0, 0, 2, 0x3f}, api.ErrRange},
		{4, 0, []byte{0}, api.ErrLong}, {4, 0, []byte{0, 0}, api.ErrLong}, {4, 1, nil, api.ErrShort}, {4, 1, []byte{0}, api.ErrShort}, {4, 1, []byte{0, 65}, api.ErrRange}, {4, 1, []byte{0, 1}, api.ErrShort}, {4, 1, []byte{0, 1, 1}, api.ErrForm}, {4, 1, []byte{0, 0, 0}, api.ErrLong}, {4, 2, []byte{0, 1, 3}, api.ErrForm},
		{5, 0, nil, api.ErrShort}, {5, 0, []byte{0}, api.ErrShort}, {5, 0, []byte{0, 0, 0}, api.ErrLong}, {5, 1, []byte{0, 0}, api.ErrRange}, {5, 1, []byte{1, 2, 'a'}, api.ErrShort}, {5, 1, []byte{1, 0x81, 0x80, 4}, api.ErrLimit}, {5, 2, []byte{2, 0, 0, 1, 2}, api.ErrForm}, {5, 2, []byte{3}, api.ErrRange}, {5, 2, []byte{2, 0, 1, 'a', 1, 0}, api.ErrForm}, {5, 1, []byte{1, 0, 0, 0}, api.ErrLong}, {5, 1, []byte{1, 0, 1}, api.ErrForm},
	} {
		kind := api.KInt
		if x.way == api.Texts {
			kind = api.KText
		}
		wantGetErr(t, join([]byte{0, byte(x.way)}, x.b), kind, x.n, x.e)
		for _, places := range [][]int{{0}, {x.n}, {0, 1}, {0, x.n + 1}, {0, 1, 2, 3, 4, 5, 6, 7, 8}} {
			n := x.n + len(places)
			wantGetErr(t, join(head(n, places...), []byte{byte(x.way)}, x.b), kind, n, x.e)
		}
	}
}

// Of each chunk its bytes up to any end, and with further ones.
func TestGetSizes(t *testing.T) {
	for _, kind := range kinds() {
		for _, n := range []int{0, 1, 2, 3, 8, 9, 16, 17, 60} {
			for _, l := range kindsOfLists(kind, n) {
				for _, h := range holed(l) {
					for _, way := range waysOf(kind) {
						b := laid(h, way)
						for end := range len(b) {
							wantGetErr(t, b[:end], kind, n, api.ErrShort)
						}
						for _, left := range [][]byte{{0}, {1}, {255}, {0, 0}, make([]byte, 100)} {
							wantGetErr(t, join(b, left), kind, n, api.ErrLong)
						}
					}
				}
			}
		}
	}
}

// As many values are read of the form as aren't nothing: a form of more of them,
// or of fewer, is that of others.
func TestGetCountsOthers(t *testing.T) {
	for _, n := range []int{3, 8, 9, 16, 17, 100} {
		for _, places := range [][]int{{0}, {n - 1}, {1, n - 1}, {0, 1, 2}} {
			is := n - len(places)
			wantGetErr(t, join(head(n, places...), []byte{0}, inWay(some(api.KInt, n, 1), 0)), api.KInt, n, api.ErrLong)
			wantGetErr(t, join(head(n, places...), []byte{0}, inWay(some(api.KInt, is+1, 1), 0)), api.KInt, n, api.ErrLong)
			if is > 0 {
				wantGetErr(t, join(head(n, places...), []byte{0}, inWay(some(api.KInt, is-1, 1), 0)), api.KInt, n, api.ErrShort)
			}
			for _, kind := range kinds() {
				for _, way := range waysOf(kind) {
					for other := range n + 2 {
						wantAny(t, join(head(n, places...), []byte{byte(way)}, inWay(some(kind, other, 1), way)), kind, n)
					}
				}
			}
		}
	}
	// Bytes that don't tell how many numbers they have are those of as many.
	for n := 3; n < 40; n++ {
		for marked := 1; marked < n-1; marked++ {
			l := slices.Concat(often(nothing, marked), often(number(7), n-marked))
			set := setOf(n)
			for i := range marked {
				set[i/8] |= 1 << (i % 8)
			}
			both(t, l, api.KInt, api.Delta, join([]byte{1}, set, []byte{2, 14, 0}))
			both(t, l, api.KInt, api.Fore, join([]byte{1}, set, []byte{4, 14, 0}))
			both(t, l, api.KInt, api.Runs, join([]byte{1}, set, []byte{1, byte(n - marked - 1), 14}))
		}
	}
}

// Of the bytes of some values those of other counts are read as the document says.
func TestGetOtherCounts(t *testing.T) {
	for _, kind := range kinds() {
		for _, n := range []int{1, 2, 7, 8, 9, 17} {
			for _, l := range kindsOfLists(kind, n) {
				for _, h := range holed(l) {
					for _, way := range waysOf(kind) {
						b := laid(h, way)
						for other := range 35 {
							wantAny(t, b, kind, other)
							wantAny(t, b, api.KInt+api.KText-kind, other)
						}
					}
				}
			}
		}
	}
}

// Of several that hold, the first one is told, as the parts are come to.
func TestGetFirstError(t *testing.T) {
	for _, x := range []struct {
		what string
		b    []byte
		kind int
		n    int
		e    api.Errno
	}{
		{"no kind, no count, no bytes", nil, 0, -1, api.ErrArg},
		{"no count, a wrong byte", []byte{7}, api.KInt, -1, api.ErrArg},
		{"a wrong byte, nothing behind", []byte{2}, api.KInt, 9, api.ErrForm},
		{"a wrong byte, a wrong way", []byte{255, 255}, api.KInt, 9, api.ErrForm},
		{"a short set, though a bit is left", []byte{1}, api.KInt, 1, api.ErrShort},
		{"a short set, though none is marked", []byte{1, 0}, api.KInt, 9, api.ErrShort},
		{"a set of no values, nothing behind", []byte{1}, api.KInt, 0, api.ErrForm},
		{"a set of no values, a wrong way", []byte{1, 9}, api.KInt, 0, api.ErrForm},
		{"a set of no values, a right way", []byte{1, 0}, api.KInt, 0, api.ErrForm},
		{"a bit that is left, nothing behind", []byte{1, 6}, api.KInt, 2, api.ErrForm},
		{"a bit that is left, a wrong way", []byte{1, 6, 5}, api.KInt, 2, api.ErrForm},
		{"none is marked, nothing behind", []byte{1, 0}, api.KInt, 2, api.ErrForm},
		{"none is marked, a wrong way", []byte{1, 0, 5}, api.KInt, 2, api.ErrForm},
		{"none is marked, wrong behind", []byte{1, 0, 0, 0x80}, api.KInt, 2, api.ErrForm},
		{"a set, no way", []byte{1, 2}, api.KInt, 2, api.ErrShort},
		{"no set, no way", []byte{0}, api.KText, 2, api.ErrShort},
		{"a set, a wrong way, nothing behind", []byte{1, 2, 5}, api.KInt, 2, api.ErrKind},
		{"a set, a wrong way, wrong behind", []byte{1, 2, 3, 0x80, 0}, api.KText, 2, api.ErrKind},
		{"a wrong way, nothing behind", []byte{0, 0}, api.KText, 0, api.ErrKind},
		{"a way, nothing behind", []byte{1, 2, 0}, api.KInt, 2, api.ErrShort},
		{"a way, too many behind", []byte{1, 2, 0, 1, 1}, api.KInt, 2, api.ErrLong},
		{"a way, wrong behind", []byte{1, 2, 0, 0x80, 0}, api.KInt, 2, api.ErrForm},
		{"all is right", []byte{1, 2, 0, 1}, api.KInt, 2, api.OK},
	} {
		if l, e := chunk.Get(x.b, x.kind, x.n); e != x.e || (e != api.OK && len(l) != 0) {
			t.Fatalf("%s: %v, error %d, not %d", x.what, l, e, x.e)
		}
	}
}

// All bytes up to two, and all three of which the first is 0 or 1, for some
// counts.
func TestGetAnyBytes(t *testing.T) {
	for _, kind := range kinds() {
		for n := -1; n < 4; n++ {
			wantAny(t, nil, kind, n)
			for v := range 1 << 8 {
				wantAny(t, []byte{byte(v)}, kind, n)
			}
			for v := range 1 << 16 {
				wantAny(t, []byte{byte(v), byte(v >> 8)}, kind, n)
				wantAny(t, []byte{0, byte(v), byte(v >> 8)}, kind, n)
				wantAny(t, []byte{1, byte(v), byte(v >> 8)}, kind, n)
			}
		}
	}
}

// All sets of up to two bytes, with and without what is to be behind them.
func TestGetAnySets(t *testing.T) {
	for _, n := range []int{8, 9, 15} {
		for v := range 1 << 16 {
			set := []byte{byte(v), byte(v >> 8)}
			wantAny(t, join([]byte{1}, set), api.KInt, n)
			wantAny(t, join([]byte{1}, set, []byte{4, 14, 0}), api.KInt, n)
			wantAny(t, join([]byte{1}, set, []byte{5, 1, 1, 'a', 0}), api.KText, n)
			wantAny(t, join([]byte{1}, set[:1], []byte{2, 14, 0}), api.KInt, n)
		}
	}
}

// All bytes behind each way.
func TestGetAnyForms(t *testing.T) {
	for _, first := range [][]byte{{0}, {1, 6}} {
		for v := range 1 << 16 {
			for _, way := range waysOf(api.KInt) {
				wantAny(t, join(first, []byte{byte(way), byte(v), byte(v >> 8)}), api.KInt, 3)
			}
			wantAny(t, join(first, []byte{5, 2, 0, 1, 'a', byte(v), byte(v >> 8)}), api.KText, 4)
		}
	}
}

// Up to six of the bytes at which something changes, for all counts that they
// may have.
func TestGetEdgeBytes(t *testing.T) {
	some := []byte{0, 1, 2, 3, 4, 5, 0x80}
	for size, k := 0, 1; size < 7; size, k = size+1, k*len(some) {
		for v := range k {
			b := make([]byte, size)
			for i := range b {
				b[i] = some[v%len(some)]
				v /= len(some)
			}
			for n := range 4 {
				wantAny(t, b, api.KInt, n)
				wantAny(t, b, api.KText, n)
			}
		}
	}
}

// Chunks of which one byte is turned, left out, or put in, at each place.
func TestGetTurnedBytes(t *testing.T) {
	for _, kind := range kinds() {
		for _, n := range []int{3, 9} {
			for _, h := range holed(some(kind, n, 3))[:5] {
				for _, way := range waysOf(kind) {
					b := laid(h, way)
					for i := range b {
						for v := range 1 << 8 {
							turned := bytes.Clone(b)
							turned[i] = byte(v)
							wantAny(t, turned, kind, n)
							wantAny(t, slices.Insert(bytes.Clone(b), i, byte(v)), kind, n)
						}
						wantAny(t, slices.Delete(bytes.Clone(b), i, i+1), kind, n)
					}
				}
			}
		}
	}
}

// P14.2: Way

func TestWay(t *testing.T) {
	for _, b := range [][]byte{nil, {}, {0}, {1}, {2}, {255}, make([]byte, 1, 10)} {
		wantWay(t, b, -1)
	}
	for first := range 256 {
		for second := range 256 {
			want := -1
			if first == 0 {
				want = second
			}
			for _, behind := range [][]byte{nil, {0}, {5}, {255}, {0, 0, 0}, bytes.Repeat([]byte{255}, 40)} {
				wantWay(t, join([]byte{byte(first), byte(second)}, behind), want)
			}
		}
	}
	for _, kind := range kinds() {
		for _, way := range waysOf(kind) {
			for _, n := range []int{0, 1, 2, 8, 9, 100, api.MaxRows} {
				l := some(kind, n, 1)
				b, _ := chunk.Put(l, kind, way)
				wantWay(t, b, way)
				if n > 0 {
					b, _ = chunk.Put(without(l, n/2), kind, way)
					wantWay(t, b, -1)
				}
			}
		}
	}
}

// P14.3

// All lists of up to five of four values; those of as many values have all other
// chunks, and one way's are no other way's.
func TestAllShortLists(t *testing.T) {
	for _, kind := range kinds() {
		values := append(numbers(0, -1, 1000), nothing)
		if kind == api.KText {
			values = append(textsOf("", "a", "\xff\x00"), nothing)
		}
		for size, k := 0, 1; size < 6; size, k = size+1, k*len(values) {
			seen := map[string]int{}
			for v := range k {
				l := make([]api.Value, size)
				for i := range l {
					l[i] = values[v%len(values)]
					v /= len(values)
				}
				inAllWays(t, l, kind)
				for _, way := range waysOf(kind) {
					seen[string(laid(l, way))]++
				}
			}
			if len(seen) != k*len(waysOf(kind)) {
				t.Fatalf("%d lists of %d values, %d chunks", k, size, len(seen))
			}
		}
	}
}

// What comes out is what went in, at the edges of what a value has: nothing isn't
// 0, nor the empty text.
func TestPutIsRead(t *testing.T) {
	edges := append(numbers(0, 1, -1, 63, 64, -64, -65, math.MaxInt32, math.MinInt32, math.MaxInt64, math.MaxInt64-1, math.MinInt64, math.MinInt64+1, 0), nothing, nothing)
	words := append(textsOf("", "a", "\x00", "\xff", "\xff\xfe", "é", "日本", "\xc3\x28", "aa", "a\x00", "", long(127), long(128), long(16384)), nothing, nothing)
	for i := range edges {
		for k := range edges {
			inAllWays(t, []api.Value{edges[i], edges[k]}, api.KInt)
			inAllWays(t, []api.Value{edges[k], nothing, edges[i], edges[k]}, api.KInt)
		}
	}
	for i := range words {
		for k := range words {
			inAllWays(t, []api.Value{words[i], words[k]}, api.KText)
			inAllWays(t, []api.Value{words[k], nothing, words[i], words[k]}, api.KText)
		}
	}
	inAllWays(t, edges, api.KInt)
	inAllWays(t, words, api.KText)
}

// A chunk of one way, read and put in each other one, is the one that the values
// have there.
func TestReadIsPut(t *testing.T) {
	for i := range 300 {
		for _, h := range holed(some(api.KInt, i%40, i)) {
			for _, from := range waysOf(api.KInt) {
				l, e := chunk.Get(laid(h, from), api.KInt, len(h))
				if e != api.OK {
					t.Fatalf("%.9v, way %d: error %d", h, from, e)
				}
				for _, to := range waysOf(api.KInt) {
					wantPut(t, l, api.KInt, to, laid(h, to))
				}
			}
		}
	}
}

// Memory (R4) and one answer (R7).

func TestPutLeavesWhatIsHandedIn(t *testing.T) {
	for _, kind := range kinds() {
		for _, way := range append(waysOf(kind), api.Auto) {
			room := without(some(kind, 90, 3), 0, 7, 40, 45, 89)
			l := room[30:60]
			kept := slices.Clone(room)
			b, _ := chunk.Put(l, kind, way)
			c, _ := chunk.Put(l, kind, way)
			want := bytes.Clone(c)
			chunk.Best(l, kind)
			for i := range b {
				b[i] ^= 0xff
			}
			_ = append(b, 1, 2, 3)
			if !bytes.Equal(c, want) || !slices.Equal(room, kept) {
				t.Fatal("answers share memory, or the list isn't what it was")
			}
			wantPut(t, l, kind, way, want)
			for i := range l {
				l[i] = api.Value{Kind: 9, N: 9, S: "9"}
			}
			if !bytes.Equal(c, want) {
				t.Fatal("the answer changed with the list")
			}
			wantPutErr(t, l, kind, way, api.ErrKind)
			// What lies behind a list in its memory, and ahead of it, isn't read.
			inAllWays(t, room[:30], kind)
			inAllWays(t, room[60:], kind)
			wantPutErr(t, room[:31], kind, way, api.ErrKind)
			wantPutErr(t, room[59:], kind, way, api.ErrKind)
		}
	}
}

// What lies behind the bytes in their memory isn't read: it would make right what
// is too short.
func TestGetLeavesWhatIsHandedIn(t *testing.T) {
	for _, kind := range kinds() {
		for _, way := range waysOf(kind) {
			for _, want := range holed(some(kind, 90, 4)) {
				b := laid(want, way)
				room := join(b, b)
				kept := bytes.Clone(room)
				b = room[:len(b)]
				l, _ := chunk.Get(b, kind, len(want))
				m, _ := chunk.Get(b, kind, len(want))
				wantGetErr(t, room[:len(b)-1], kind, len(want), api.ErrShort)
				wantGetErr(t, room, kind, len(want), api.ErrLong)
				chunk.Way(b)
				if !bytes.Equal(room, kept) {
					t.Fatal("the bytes aren't what they were")
				}
				for i := range l {
					l[i] = api.Value{Kind: 9, N: 9, S: "9"}
				}
				_ = append(l, number(1), nothing)
				if !slices.Equal(m, want) || !bytes.Equal(room, kept) {
					t.Fatal("answers share memory")
				}
				clear(b)
				if !slices.Equal(m, want) {
					t.Fatal("the answer changed with the bytes")
				}
			}
		}
	}
}

// An answer hangs on nothing that was asked ahead of it, an error least of all.
func TestOneAnswer(t *testing.T) {
	for _, kind := range kinds() {
		l := without(some(kind, 100, 3), 3, 50, 99)
		for range 5 {
			inAllWays(t, l, kind)
			way := waysOf(kind)[0]
			b := laid(l, way)
			wantGetErr(t, b[:5], kind, 100, api.ErrShort)
			wantGetErr(t, b, kind, -1, api.ErrArg)
			wantGetErr(t, b, api.KInt+api.KText-kind, 100, api.ErrKind)
			wantGetErr(t, []byte{2}, kind, 100, api.ErrForm)
			wantGetErr(t, join(b, []byte{0}), kind, 100, api.ErrLong)
			wantPutErr(t, l, kind, 9, api.ErrArg)
			wantPutErr(t, l, api.KInt+api.KText-kind, api.Auto, api.ErrKind)
			wantPutErr(t, make([]api.Value, api.MaxRows+1), kind, way, api.ErrLimit)
			inAllWays(t, nil, kind)
		}
	}
}
