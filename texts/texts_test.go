package texts_test

import (
	"bytes"
	"encoding/binary"
	"math"
	"slices"
	"strings"
	"testing"

	"estreat/api"
	"estreat/texts"
)

// odd are texts at which something may change: the empty one, those of which one
// begins the other, of bytes above 127, of bytes that are no letters, and of
// lengths around each size of a short number.
func odd() []string {
	l := []string{"", "a", "aa", "aaa", "ab", "b", "ba", "B", "a b", " ", "a\n", "\t", "0", "9", "10", "-1", "\"", "\\", "{}", "zz", "Zz"}
	l = append(l, "\x00", "\x00\x00", "a\x00", "a\x00a", "a\x01", "\x01", "\x7f", "\x80", "\x80\x80", "\xbf", "\xc3", "\xc3\x28", "\xfe", "\xff", "\xff\xff", "\xff\x00", "a\xff")
	l = append(l, "ä", "äb", "é", "ß", "日本", "日", "\u0301", "e\u0301", "\ufffd", "\U0001f600")
	for _, n := range []int{126, 127, 128, 129, 255, 256, 16383, 16384} {
		l = append(l, strings.Repeat("a", n), strings.Repeat("\xff", n), strings.Repeat("\x00", n))
	}
	return l
}

// long is a text of so many bytes, of which first and last are unlike.
func long(n int) string {
	return "l" + strings.Repeat("o", n-2) + "g"
}

// rising is n texts of 3 bytes, each above the one ahead, from a first one on.
func rising(first, n int) []string {
	l := make([]string, n)
	for i := range l {
		v := first + i
		l[i] = string([]byte{byte(v >> 16), byte(v >> 8), byte(v)})
	}
	return l
}

func falling(l []string) []string {
	l = slices.Clone(l)
	slices.Reverse(l)
	return l
}

func often(text string, n int) []string {
	return slices.Repeat([]string{text}, n)
}

// chance is a number that looks like any other, the same at each call.
func chance(i int) uint64 {
	v := uint64(i+1) * 6364136223846793005
	v ^= v >> 29
	v *= 2862933555777941757
	return v ^ v>>32
}

// some is k texts that are all unlike, in no order, of lengths up to some 20.
func some(k int) []string {
	l := make([]string, k)
	seen := map[string]int{}
	for i, n := 0, 0; i < k; n++ {
		b := binary.LittleEndian.AppendUint64(nil, chance(n))
		b = binary.LittleEndian.AppendUint64(b, chance(-n))
		text := string(b[:chance(n*7)%17])
		if n > k { // short ones are used up
			text += string(b[:3])
		}
		if _, there := seen[text]; !there {
			seen[text] = i
			l[i] = text
			i++
		}
	}
	return l
}

// mixed is n texts, up and down, out of k that are unlike; each of these is
// there, if n is k or more.
func mixed(n, k int) []string {
	from := some(k)
	l := make([]string, n)
	for i := range l {
		at := i
		if i >= k {
			at = int(chance(i) % uint64(k))
		}
		l[n-1-i] = from[at]
	}
	return l
}

// full is lists of n texts of all kinds.
func full(n int) [][]string {
	l := [][]string{often("", n), often("a", n), often("\xff\x00", n), rising(0, n), rising(1<<23-9, n), falling(rising(0x6130ff, n))}
	for _, k := range []int{1, 2, 3, 4, 5, 17, 300, n} {
		l = append(l, mixed(n, max(k, 1)))
	}
	return l
}

// listed is the list of l by the words of the document: byte by byte.
func listed(l []string) []string {
	l = slices.Clone(l)
	slices.SortFunc(l, byBytes)
	return slices.Compact(l)
}

func byBytes(a, b string) int {
	for i := range min(len(a), len(b)) {
		if a[i] != b[i] {
			return int(a[i]) - int(b[i])
		}
	}
	return len(a) - len(b)
}

// widthOf is the least width that the places of a list of so many go into.
func widthOf(count int) int {
	width := 0
	for 1<<width < count {
		width++
	}
	return width
}

// packed is numbers packed in a width, bit by bit.
func packed(l []uint64, width int) []byte {
	b := make([]byte, (len(l)*width+7)/8)
	at := 0
	for _, v := range l {
		for k := range width {
			b[at/8] |= byte(v>>k&1) << (at % 8)
			at++
		}
	}
	return b
}

// short is a short number.
func short(v uint64) []byte {
	return binary.AppendUvarint(nil, v)
}

func blob(text string) []byte {
	return append(short(uint64(len(text))), text...)
}

// head is the form of a list, whether it rises or not, without what is behind it.
func head(list []string) []byte {
	b := short(uint64(len(list)))
	for _, text := range list {
		b = append(b, blob(text)...)
	}
	return b
}

// laid is the parts of a form, whether they may be together or not.
func laid(list []string, width int, behind []byte) []byte {
	return join(head(list), []byte{byte(width)}, behind)
}

// at is the form of these places in a list, in the width that it needs.
func at(list []string, places ...uint64) []byte {
	width := widthOf(len(list))
	return laid(list, width, packed(places, width))
}

// wide is the form of l, but with that width, whatever the least one is.
func wide(l []string, width int) []byte {
	list := listed(l)
	places := make([]uint64, len(l))
	for i, text := range l {
		place, _ := slices.BinarySearchFunc(list, text, byBytes)
		places[i] = uint64(place)
	}
	return laid(list, width, packed(places, width))
}

// form is the form of l by the words of the document.
func form(l []string) []byte {
	return wide(l, widthOf(len(listed(l))))
}

// read is what Get answers by the words of the document.
func read(b []byte, n int) ([]string, api.Errno) {
	if n < 0 || n > api.MaxRows {
		return nil, api.ErrArg
	}
	list, b, e := readList(b, n)
	if e != api.OK {
		return nil, e
	}
	places, e := readPlaces(b, n, len(list))
	if e != api.OK {
		return nil, e
	}
	l := make([]string, n)
	there := map[uint64]int{}
	for i, place := range places {
		if place >= uint64(len(list)) {
			return nil, api.ErrRange
		}
		l[i] = list[place]
		there[place]++
	}
	if len(there) < len(list) {
		return nil, api.ErrForm
	}
	return l, api.OK
}

// readList is the list that b begins with, and the bytes behind it.
func readList(b []byte, n int) ([]string, []byte, api.Errno) {
	count, b, e := readShort(b)
	if e != api.OK {
		return nil, nil, e
	}
	if count > uint64(n) {
		return nil, nil, api.ErrRange
	}
	var list []string
	for i := range count {
		var size uint64
		if size, b, e = readShort(b); e != api.OK {
			return nil, nil, e
		}
		if size > 65536 {
			return nil, nil, api.ErrLimit
		}
		if size > uint64(len(b)) {
			return nil, nil, api.ErrShort
		}
		list = append(list, string(b[:size]))
		b = b[size:]
		if i > 0 && byBytes(list[i-1], list[i]) >= 0 {
			return nil, nil, api.ErrForm
		}
	}
	return list, b, api.OK
}

// readShort is the short number that b begins with, and the bytes behind it.
func readShort(b []byte) (uint64, []byte, api.Errno) {
	var v uint64
	for i, c := range b {
		if i > 0 && c == 0 || i == 9 && c%128 > 1 || i == 10 {
			return 0, nil, api.ErrForm
		}
		v |= uint64(c%128) << (7 * i)
		if c < 128 {
			return v, b[i+1:], api.OK
		}
	}
	return 0, nil, api.ErrShort
}

// readPlaces is the n places of b, a width and what is packed in it.
func readPlaces(b []byte, n, count int) ([]uint64, api.Errno) {
	if len(b) == 0 {
		return nil, api.ErrShort
	}
	width := int(b[0])
	b = b[1:]
	if width != widthOf(count) {
		return nil, api.ErrForm
	}
	size := (n*width + 7) / 8
	if len(b) < size {
		return nil, api.ErrShort
	}
	if len(b) > size {
		return nil, api.ErrLong
	}
	l := make([]uint64, n)
	for at := range 8 * size {
		bit := uint64(b[at/8] >> (at % 8) & 1)
		if at >= n*width {
			if bit == 1 {
				return nil, api.ErrForm
			}
			continue
		}
		l[at/width] |= bit << (at % width)
	}
	return l, api.OK
}

// join is all parts, one behind the other, in new memory.
func join(parts ...[]byte) []byte {
	return bytes.Join(parts, nil)
}

// wantList looks whether want is the list of l.
func wantList(t *testing.T, l, want []string) {
	t.Helper()
	if got := texts.List(l); !slices.Equal(got, want) {
		t.Fatalf("%d texts %.20q: list %.20q, not %.20q", len(l), l, got, want)
	}
}

// wantPut looks whether want is what Put answers.
func wantPut(t *testing.T, l []string, want []byte) {
	t.Helper()
	b, e := texts.Put(l)
	if e != api.OK || !bytes.Equal(b, want) {
		t.Fatalf("%d texts %.20q: %.40x, error %d, not %.40x", len(l), l, b, e, want)
	}
}

func wantPutErr(t *testing.T, l []string, want api.Errno) {
	t.Helper()
	if b, e := texts.Put(l); e != want || len(b) != 0 {
		t.Fatalf("%d texts: %d bytes, error %d, not %d", len(l), len(b), e, want)
	}
}

func wantGet(t *testing.T, b []byte, n int, want []string) {
	t.Helper()
	l, e := texts.Get(b, n)
	if e != api.OK || len(l) != n || !slices.Equal(l, want) {
		t.Fatalf("%d of %.40x: %d texts %.20q, error %d, not %.20q", n, b, len(l), l, e, want)
	}
}

func wantGetErr(t *testing.T, b []byte, n int, want api.Errno) {
	t.Helper()
	if l, e := texts.Get(b, n); e != want || len(l) != 0 {
		t.Fatalf("%d of %d bytes %.40x: %d texts %.20q, error %d, not %d", n, len(b), b, len(l), l, e, want)
	}
}

// both looks whether l is put as b and b is read as l.
func both(t *testing.T, l []string, b []byte) {
	t.Helper()
	wantPut(t, l, b)
	wantGet(t, b, len(l), l)
}

// wantAny looks whether Get answers what the words of the document say, and if
// that is texts, whether they are put as they were.
func wantAny(t *testing.T, b []byte, n int) {
	t.Helper()
	want, e := read(b, n)
	if e != api.OK {
		wantGetErr(t, b, n, e)
		return
	}
	both(t, want, b)
}

// The document's example.

func TestExample(t *testing.T) {
	wantList(t, []string{"b", "a", "b"}, []string{"a", "b"})
	both(t, []string{"b", "a", "b"}, []byte{0x02, 0x01, 0x61, 0x01, 0x62, 0x01, 0x05})
}

// P13.1: List

func TestListOfNone(t *testing.T) {
	for _, l := range [][]string{nil, {}, make([]string, 0, 10), often("a", 3)[:0]} {
		wantList(t, l, nil)
	}
}

func TestListOfOne(t *testing.T) {
	for _, text := range append(odd(), long(api.MaxText), long(api.MaxText+1), long(1<<20)) {
		wantList(t, []string{text}, []string{text})
		for _, n := range []int{2, 3, 100} {
			wantList(t, often(text, n), []string{text})
		}
	}
	wantList(t, often("a", 3*api.MaxRows), []string{"a"})
}

// Of each two texts the one is ahead by its bytes, the first of which that
// differs counts, without a sign; of two of which one begins the other, it is the
// shorter one.
func TestListOfTwo(t *testing.T) {
	l := odd()
	for _, a := range l {
		for _, b := range l {
			want := []string{a, b}
			switch c := bytes.Compare([]byte(a), []byte(b)); {
			case c == 0:
				want = want[:1]
			case c > 0:
				want = []string{b, a}
			}
			wantList(t, []string{a, b}, want)
			wantList(t, []string{a, b, a}, want)
		}
	}
}

func TestListOfMany(t *testing.T) {
	for _, x := range [][2][]string{
		{{"a", "b", "c"}, {"a", "b", "c"}}, {{"c", "b", "a"}, {"a", "b", "c"}}, {{"b", "c", "a"}, {"a", "b", "c"}}, {{"c", "a", "b", "b", "a", "c", "c"}, {"a", "b", "c"}},
		{{"a", "", "b"}, {"", "a", "b"}}, {{"", "a", ""}, {"", "a"}}, {{"", "", ""}, {""}}, {{"\x00", ""}, {"", "\x00"}},
		{{"aaa", "aa", "a", ""}, {"", "a", "aa", "aaa"}}, {{"ab", "b", "a", "abc", "ac"}, {"a", "ab", "abc", "ac", "b"}}, {{"a", "a\x00", "a\x00\x00"}, {"a", "a\x00", "a\x00\x00"}},
		{{"\xff", "\x7f", "\x80", "\x00"}, {"\x00", "\x7f", "\x80", "\xff"}}, {{"é", "z", "e", "Z"}, {"Z", "e", "z", "é"}}, {{"\xff", "日", "é", "\xc3"}, {"\xc3", "é", "日", "\xff"}},
		{{"10", "9", "1", "-1"}, {"-1", "1", "10", "9"}}, {{"b", "B", "a", "A"}, {"A", "B", "a", "b"}}, {{" ", "\t", "\n", "~", "_"}, {"\t", "\n", " ", "_", "~"}},
		{{"e\u0301", "\u00e9", "e"}, {"e", "e\u0301", "\u00e9"}}, {{"a ", "a", " a"}, {" a", "a", "a "}},
	} {
		wantList(t, x[0], x[1])
		wantList(t, falling(x[0]), x[1])
		wantList(t, slices.Concat(x[0], x[1], x[0]), x[1])
	}
	wantList(t, rising(70, 500), rising(70, 500))
	wantList(t, falling(rising(70, 500)), rising(70, 500))
	wantList(t, odd(), listed(odd()))
	for _, n := range []int{3, 4, 100, 2000} {
		for _, l := range full(n) {
			wantList(t, l, listed(l))
		}
	}
}

// List has no limit: of its texts, of those that are unlike, or of their bytes.
func TestListBeyondMost(t *testing.T) {
	for _, n := range []int{api.MaxRows - 1, api.MaxRows, api.MaxRows + 1, 2*api.MaxRows + 5} {
		wantList(t, rising(5, n), rising(5, n))
		for _, l := range [][]string{falling(rising(0, n)), mixed(n, 300), mixed(n, n)} {
			wantList(t, l, listed(l))
		}
	}
	wantList(t, []string{long(1 << 17), long(1<<17 + 1), long(1 << 17)}, []string{long(1 << 17), long(1<<17 + 1)})
}

// P13.1: Put

func TestNone(t *testing.T) {
	for _, l := range [][]string{nil, {}, make([]string, 0, 10), often("a", 3)[:0]} {
		both(t, l, []byte{0, 0})
	}
}

func TestOne(t *testing.T) {
	for _, x := range []struct {
		text string
		b    []byte
	}{
		{"", []byte{1, 0, 0}}, {"a", []byte{1, 1, 'a', 0}}, {"\x00", []byte{1, 1, 0, 0}}, {"\xff\x80", []byte{1, 2, 0xff, 0x80, 0}}, {"é", []byte{1, 2, 0xc3, 0xa9, 0}},
		{long(127), join([]byte{1, 0x7f}, []byte(long(127)), []byte{0})},
		{long(128), join([]byte{1, 0x80, 1}, []byte(long(128)), []byte{0})},
		{long(16384), join([]byte{1, 0x80, 0x80, 1}, []byte(long(16384)), []byte{0})},
	} {
		both(t, []string{x.text}, x.b)
	}
	for _, text := range odd() {
		both(t, []string{text}, form([]string{text}))
	}
}

// Texts that are all the same have a width of 0, and nothing behind it.
func TestAllTheSame(t *testing.T) {
	for _, text := range odd() {
		for _, n := range []int{2, 3, 8, 9, 10, 129, 1000} {
			both(t, often(text, n), join([]byte{1}, blob(text), []byte{0}))
		}
	}
	for _, text := range []string{"", "a", "\x00\xff", long(api.MaxText)} {
		for _, n := range []int{5000, api.MaxRows - 1, api.MaxRows} {
			both(t, often(text, n), join([]byte{1}, blob(text), []byte{0}))
		}
	}
}

func TestTwo(t *testing.T) {
	for _, x := range []struct {
		l []string
		b []byte
	}{
		{[]string{"a", "b"}, []byte{2, 1, 'a', 1, 'b', 1, 2}}, {[]string{"b", "a"}, []byte{2, 1, 'a', 1, 'b', 1, 1}},
		{[]string{"", "a"}, []byte{2, 0, 1, 'a', 1, 2}}, {[]string{"a", ""}, []byte{2, 0, 1, 'a', 1, 1}}, {[]string{"\x00", ""}, []byte{2, 0, 1, 0, 1, 1}},
		{[]string{"a", "ab"}, []byte{2, 1, 'a', 2, 'a', 'b', 1, 2}}, {[]string{"ab", "a"}, []byte{2, 1, 'a', 2, 'a', 'b', 1, 1}}, {[]string{"b", "ab"}, []byte{2, 2, 'a', 'b', 1, 'b', 1, 1}},
		{[]string{"\xff", "\x7f"}, []byte{2, 1, 0x7f, 1, 0xff, 1, 1}}, {[]string{"\x80", "\x00"}, []byte{2, 1, 0, 1, 0x80, 1, 1}},
	} {
		both(t, x.l, x.b)
	}
	l := odd()
	for i, a := range l {
		for _, b := range l[i%5:] {
			both(t, []string{a, b}, form([]string{a, b}))
		}
	}
}

func TestMany(t *testing.T) {
	both(t, []string{"b", "b", "a", "b", "a", "a", "a", "b"}, []byte{2, 1, 'a', 1, 'b', 1, 0x8b})
	both(t, []string{"b", "b", "a", "b", "a", "a", "a", "b", "b"}, []byte{2, 1, 'a', 1, 'b', 1, 0x8b, 1})
	both(t, []string{"a", "b", "c"}, []byte{3, 1, 'a', 1, 'b', 1, 'c', 2, 0x24})
	both(t, []string{"c", "b", "a"}, []byte{3, 1, 'a', 1, 'b', 1, 'c', 2, 0x06})
	both(t, []string{"", "\xff", "ab", "", "\xff"}, []byte{3, 0, 2, 'a', 'b', 1, 0xff, 2, 0x18, 2})
	both(t, []string{"e", "d", "c", "b", ""}, []byte{5, 0, 1, 'b', 1, 'c', 1, 'd', 1, 'e', 3, 0x9c, 0x02})
	both(t, odd(), form(odd()))
	both(t, falling(odd()), form(falling(odd())))
	for _, n := range []int{3, 4, 5, 8, 9, 10, 17, 100, 1000} {
		for _, l := range full(n) {
			both(t, l, form(l))
		}
	}
}

// rangeOf is the numbers from 0 on, below n.
func rangeOf(n int) []uint64 {
	l := make([]uint64, n)
	for i := range l {
		l[i] = uint64(i)
	}
	return l
}

// A list of 2, 4, 8 .. texts has the width of one of less, one of 3, 5, 9 .. a
// greater one: where each text stands once, and where they stand often.
func TestEachWidth(t *testing.T) {
	for width := 1; width < 17; width++ {
		for _, count := range []int{1<<(width-1) + 1, 1<<(width-1) + 2, 1<<width - 1, 1 << width} {
			if count <= 1<<(width-1) || count > 1<<width {
				continue
			}
			for _, list := range [][]string{rising(0x7ffff0, count), listed(some(count))} {
				b := laid(list, width, packed(rangeOf(count), width))
				both(t, list, b)
				if len(b) != len(head(list))+1+(count*width+7)/8 {
					t.Fatalf("%d texts: %d bytes", count, len(b))
				}
				down := falling(list)
				if count < api.MaxRows {
					down = append(down, list[0])
				}
				both(t, down, form(down))
			}
		}
	}
	both(t, mixed(5000, 256), wide(mixed(5000, 256), 8))
	both(t, mixed(5000, 257), wide(mixed(5000, 257), 9))
}

func TestLongTexts(t *testing.T) {
	top := long(api.MaxText)
	both(t, []string{top}, join([]byte{1, 0x80, 0x80, 4}, []byte(top), []byte{0}))
	for i := range 6 {
		both(t, slices.Insert(rising(0x6b0000, 5), i, top), form(slices.Insert(rising(0x6b0000, 5), i, top)))
	}
	l := []string{top, top[:api.MaxText-1], "m" + top[1:], top, top[1:], "k" + top[1:]}
	both(t, l, form(l))
	for _, n := range []int{api.MaxText + 1, api.MaxText + 2, 2 * api.MaxText, 1 << 20} {
		for i := range 6 {
			wantPutErr(t, slices.Insert(rising(0x6b0000, 5), i, long(n)), api.ErrLimit)
		}
		wantPutErr(t, []string{long(n)}, api.ErrLimit)
		wantPutErr(t, []string{"", top, long(n)}, api.ErrLimit)
		wantPutErr(t, often(long(n), 300), api.ErrLimit)
		wantPutErr(t, append(rising(0, api.MaxRows-1), long(n)), api.ErrLimit)
		wantPutErr(t, append(rising(0, api.MaxRows), long(n)), api.ErrLimit)
	}
}

func TestMost(t *testing.T) {
	for _, n := range []int{api.MaxRows - 1, api.MaxRows} {
		for _, l := range full(n) {
			both(t, l, form(l))
		}
	}
	l := rising(0, api.MaxRows)
	var list, behind []byte
	for i := range api.MaxRows {
		list = append(list, 3, 0, byte(i>>8), byte(i))
		behind = append(behind, byte(i), byte(i>>8))
	}
	both(t, l, join([]byte{0x80, 0x80, 4}, list, []byte{16}, behind))
}

func TestBeyondMost(t *testing.T) {
	for _, n := range []int{api.MaxRows + 1, api.MaxRows + 2, 2 * api.MaxRows, 3*api.MaxRows + 5} {
		for _, l := range [][]string{make([]string, n), often("a", n), often(long(api.MaxText), n), rising(10, n), mixed(n, 5), mixed(n, api.MaxRows)} {
			wantPutErr(t, l, api.ErrLimit)
		}
	}
}

// P13.1: Get

// ErrArg comes ahead of all that is wrong with the bytes, and of bytes that are
// right but for how many texts they have.
func TestGetWrongCount(t *testing.T) {
	all := [][]byte{
		nil, {}, {0}, {0x80}, {0x80, 0}, {0, 0}, {0, 65}, {1, 0, 0}, {1, 1, 'a', 0}, {1, 0x81, 0x80, 4}, {2, 1, 'a', 1, 'b', 1, 5}, {2, 1, 'a', 1, 'a', 1, 2}, bytes.Repeat([]byte{0xff}, 20),
		form(rising(5, api.MaxRows+1)), form(rising(5, api.MaxRows+2)), form(often("a", api.MaxRows+1)), form(mixed(api.MaxRows+1, 64)),
	}
	for _, n := range []int{-1, -2, -api.MaxRows, -1 << 32, math.MinInt, math.MinInt + 1, api.MaxRows + 1, api.MaxRows + 2, 2 * api.MaxRows, 1 << 32, 1<<32 + 1, 1 << 62, math.MaxInt - 1, math.MaxInt} {
		for _, b := range all {
			wantGetErr(t, b, n, api.ErrArg)
		}
	}
}

func TestGetNone(t *testing.T) {
	wantGet(t, []byte{0, 0}, 0, nil)
	for _, x := range []struct {
		b []byte
		e api.Errno
	}{
		{nil, api.ErrShort}, {[]byte{}, api.ErrShort}, {[]byte{0}, api.ErrShort}, {[]byte{0x80}, api.ErrShort},
		{[]byte{0, 0, 0}, api.ErrLong}, {[]byte{0, 0, 1}, api.ErrLong}, {[]byte{0, 0, 0xff, 0x80}, api.ErrLong}, {make([]byte, 1000), api.ErrLong},
		{[]byte{0, 1}, api.ErrForm}, {[]byte{0, 1, 0}, api.ErrForm}, {[]byte{0, 64}, api.ErrForm}, {[]byte{0, 65}, api.ErrForm}, {[]byte{0, 255, 1}, api.ErrForm}, {[]byte{0x80, 0}, api.ErrForm},
		{[]byte{1}, api.ErrRange}, {[]byte{1, 1, 'a', 0}, api.ErrRange}, {[]byte{2, 1, 'a', 1, 'b', 1, 5}, api.ErrRange}, {[]byte{1, 0x80, 0}, api.ErrRange}, {[]byte{1, 0, 0}, api.ErrRange},
	} {
		wantGetErr(t, x.b, 0, x.e)
	}
}

// A list without texts has no place for those that are asked for.
func TestGetSomeOfNone(t *testing.T) {
	for _, n := range []int{1, 2, 3, 8, 9, 1000, api.MaxRows} {
		wantGetErr(t, []byte{0, 0}, n, api.ErrRange)
		wantGetErr(t, []byte{0, 0, 0}, n, api.ErrLong)
		wantGetErr(t, []byte{0}, n, api.ErrShort)
		for width := 1; width < 256; width++ {
			wantGetErr(t, []byte{0, byte(width)}, n, api.ErrForm)
			wantGetErr(t, append([]byte{0, byte(width)}, make([]byte, (n%1001*width+7)/8)...), n, api.ErrForm)
		}
	}
}

// Bytes that end anywhere are too few: in the count, in a text's length, in a
// text, ahead of the width, and in the places.
func TestGetShort(t *testing.T) {
	lists := [][]string{{"a"}, {""}, {"b", "a", "b"}, {long(300), "é"}, mixed(300, 200), mixed(9, 2), mixed(700, 3), rising(70, 200), {"", "a"}}
	for _, l := range lists {
		b := form(l)
		for end := range len(b) {
			wantGetErr(t, b[:end], len(l), api.ErrShort)
			wantGetErr(t, b[:end], api.MaxRows, api.ErrShort)
		}
		wantGet(t, b, len(l), l)
	}
	for _, n := range []int{0, 1, 2, 9, api.MaxRows} {
		for _, part := range [][]byte{nil, {}, {0x80}, {0xff}, {0xff, 0xff}, bytes.Repeat([]byte{0x80}, 9), bytes.Repeat([]byte{0x80}, 10), append(bytes.Repeat([]byte{0xff}, 9), 0x81)} {
			wantGetErr(t, part, n, api.ErrShort)
			if n > 0 {
				wantGetErr(t, join([]byte{1}, part), n, api.ErrShort)
			}
			if n > 1 {
				wantGetErr(t, join([]byte{2, 0}, part), n, api.ErrShort)
				wantGetErr(t, []byte{2, 0, 1, 'a'}, n, api.ErrShort)
				wantGetErr(t, []byte{2, 0, 1, 'a', 1}, n, api.ErrShort)
			}
		}
	}
	for _, l := range [][]string{rising(0, api.MaxRows), mixed(api.MaxRows, 300), mixed(api.MaxRows, api.MaxRows)} {
		b := form(l)
		for _, end := range []int{0, 1, 2, 3, len(b) / 3, len(b) / 2, len(b) - 1} {
			wantGetErr(t, b[:end], len(l), api.ErrShort)
		}
	}
}

// A text that ends early is told by its length alone, up to the greatest one; a
// greater one is ErrLimit, however many bytes are there.
func TestGetTextLength(t *testing.T) {
	for _, n := range []int{1, 2, 127, 128, 1000, api.MaxText - 1, api.MaxText} {
		b := blob(long(max(n, 2))[:n])
		for _, end := range []int{0, 1, n / 2, n - 1} {
			if end < n {
				wantGetErr(t, join([]byte{1}, b[:len(b)-n+end]), 1, api.ErrShort)
				wantGetErr(t, join([]byte{2, 0}, b[:len(b)-n+end]), 2, api.ErrShort)
			}
		}
		wantGetErr(t, join([]byte{1}, b), 1, api.ErrShort) // there is no width
		wantGet(t, join([]byte{1}, b, []byte{0}), 1, []string{string(b[len(b)-n:])})
		wantGet(t, join([]byte{2, 0}, b, []byte{1, 2}), 2, []string{"", string(b[len(b)-n:])})
	}
	for _, n := range []uint64{api.MaxText + 1, api.MaxText + 2, 2 * api.MaxText, 1 << 24, 1 << 31, 1 << 32, 1<<32 + 5, 1<<63 - 1, 1 << 63, 1<<63 + 1, math.MaxUint64 - 1, math.MaxUint64} {
		for _, left := range [][]byte{nil, {0}, {0, 0}, {0x80, 0}, make([]byte, 100), make([]byte, api.MaxText), make([]byte, api.MaxText+1), make([]byte, 2*api.MaxText+9)} {
			wantGetErr(t, join([]byte{1}, short(n), left), 1, api.ErrLimit)
			wantGetErr(t, join([]byte{1}, short(n), left), api.MaxRows, api.ErrLimit)
			wantGetErr(t, join([]byte{3, 0, 1, 'a'}, short(n), left), 3, api.ErrLimit)
			wantGetErr(t, join([]byte{5, 0, 1, 'a'}, short(n), left), 9, api.ErrLimit)
			wantGetErr(t, join([]byte{5, 0, 1, 'a'}, short(n), left), 4, api.ErrRange)
		}
	}
	wantGetErr(t, form([]string{long(api.MaxText + 1)}), 1, api.ErrLimit)
	wantGetErr(t, form([]string{"a", long(api.MaxText + 1), "z"}), 3, api.ErrLimit)
}

// Of each width there is, places that lack bytes or have too many.
func TestGetSizes(t *testing.T) {
	for width := range 11 {
		list := rising(3, 1<<width)
		for _, n := range []int{1 << width, 1<<width + 1, 1<<width + 9} {
			size := (n*width + 7) / 8
			for _, c := range []byte{0, 1, 255} {
				for _, behind := range []int{size - 1, size - 2, size / 2, 1, 0} {
					if behind >= 0 && behind < size {
						wantGetErr(t, laid(list, width, bytes.Repeat([]byte{c}, behind)), n, api.ErrShort)
					}
				}
				for _, behind := range []int{size + 1, size + 2, size + 8, 2*size + 1, size + 1000} {
					wantGetErr(t, laid(list, width, bytes.Repeat([]byte{c}, behind)), n, api.ErrLong)
				}
			}
			l := slices.Concat(list, often(list[0], n-len(list)))
			wantGet(t, form(l), n, l)
			for _, left := range [][]byte{{0}, {1}, {0x80}, {0, 0}, make([]byte, 1000)} {
				wantGetErr(t, join(form(l), left), n, api.ErrLong)
			}
		}
	}
	l := rising(0, api.MaxRows)
	wantGetErr(t, join(form(l), []byte{0}), len(l), api.ErrLong)
}

// bad are short numbers that can't be: one that is 0 behind a byte that tells of
// it, one above 64 bits, and one of more than ten bytes.
func bad() [][]byte {
	var l [][]byte
	for n := 1; n < 10; n++ {
		l = append(l, append(bytes.Repeat([]byte{0x80}, n), 0), append(bytes.Repeat([]byte{0xff}, n), 0))
	}
	for _, c := range []byte{2, 3, 4, 0x40, 0x7e, 0x7f, 0x82, 0x83, 0xfe, 0xff} {
		l = append(l, append(bytes.Repeat([]byte{0x80}, 9), c), append(bytes.Repeat([]byte{0xff}, 9), c))
	}
	for _, c := range []byte{0, 1, 0x7f, 0x80, 0x81, 0xff} {
		l = append(l, append(bytes.Repeat([]byte{0x80}, 10), c), append(bytes.Repeat([]byte{0xff}, 9), 0x81, c))
	}
	return append(l, []byte{0x81, 0}, []byte{0x83, 0x80, 0}, []byte{0x80, 0x80, 0x84, 0})
}

// A short number that can't be, as the count and as the length of each text, is
// told ahead of all that is wrong behind it.
func TestGetBadNumbers(t *testing.T) {
	const count = 20
	for _, wrong := range bad() {
		for _, left := range [][]byte{nil, {0}, {65}, {255}, {0, 0}, {1, 1}, {0x80}, {1, 'a', 0}, wrong, make([]byte, 100)} {
			for _, n := range []int{0, 1, 2, 9, api.MaxRows} {
				wantGetErr(t, join(wrong, left), n, api.ErrForm)
			}
			for at := range count {
				list := head(rising(70, count))[:1+4*at] // the count and as many texts, of 4 bytes each
				for _, n := range []int{count, count + 1, api.MaxRows} {
					wantGetErr(t, join(list, wrong, left), n, api.ErrForm)
				}
				wantGetErr(t, join(list, wrong, left), count-1, api.ErrRange)
			}
		}
	}
}

// A list that has more texts than are asked for, by one or by as many as there
// can be, is told behind its count, whatever comes then.
func TestGetCountRange(t *testing.T) {
	for _, n := range []int{0, 1, 2, 3, 9, 126, 127, 128, 1000, api.MaxRows - 1, api.MaxRows} {
		counts := []uint64{uint64(n) + 1, uint64(n) + 2, 2*uint64(n) + 1, uint64(n) + 1<<16, 1<<17 + 1, 1<<31 + uint64(n), 1<<32 + uint64(n), 1<<63 - 1, 1 << 63, 1<<63 + uint64(n), math.MaxUint64 - 1, math.MaxUint64}
		for _, count := range counts {
			for _, left := range [][]byte{nil, {0}, {1, 'a', 0}, {0x80}, {0x80, 0}, {65}, {0, 0}, {0x81, 0x80, 4}, bytes.Repeat([]byte{255}, 20), make([]byte, 5000)} {
				wantGetErr(t, join(short(count), left), n, api.ErrRange)
			}
		}
		wantGetErr(t, form(rising(5, n+1)), n, api.ErrRange)
		wantGetErr(t, form(some(n+1)), n, api.ErrRange)
	}
}

// A text that is the same as the one ahead, or below it, is told where it
// stands: ahead of what is behind it.
func TestGetNotAbove(t *testing.T) {
	lefts := [][]byte{nil, {0}, {1, 2}, {2, 1}, {65}, {255}, {0x80, 0}, {0x81, 0x80, 4}, {0, 0, 0, 0}, make([]byte, 100), bytes.Repeat([]byte{255}, 20)}
	for _, a := range odd() {
		for _, b := range odd() {
			if byBytes(a, b) < 0 {
				wantGet(t, laid([]string{a, b}, 1, []byte{2}), 2, []string{a, b})
				continue
			}
			for _, left := range lefts {
				for _, count := range []byte{2, 3, 9} {
					wantGetErr(t, join([]byte{count}, blob(a), blob(b), left), 9, api.ErrForm)
				}
			}
			wantGetErr(t, laid([]string{a, b}, 1, []byte{2}), 2, api.ErrForm)
			wantGetErr(t, laid([]string{a, b}, 1, []byte{1}), 2, api.ErrForm)
		}
	}
	for at := 1; at < 30; at++ {
		list := rising(0x600080, at)
		for _, wrong := range []string{list[at-1], list[0], list[at/2], "", "\x00", list[at-1][:2], list[0][:1], "\x5f\xff\xff\xff"} {
			for _, count := range []int{at + 1, at + 2, 40} {
				for _, left := range lefts {
					wantGetErr(t, join(short(uint64(count)), head(list)[1:], blob(wrong), left), 40, api.ErrForm)
				}
			}
		}
	}
	list := append(rising(0, api.MaxRows-1), "\x00\xff\xfe")
	wantGetErr(t, laid(list, 16, make([]byte, 2*api.MaxRows)), api.MaxRows, api.ErrForm)
}

// A width that isn't the least one, by one or by many, is told ahead of what is
// packed, whether that is right in its width or not.
func TestGetWidthForm(t *testing.T) {
	for _, k := range []int{1, 2, 3, 4, 5, 8, 9, 16, 17, 100, 256, 257} {
		list := listed(some(k))
		for width := range 256 {
			if width == widthOf(k) {
				continue
			}
			for _, n := range []int{k, k + 1, 300} {
				size := (n*width + 7) / 8
				for _, behind := range [][]byte{nil, {0}, make([]byte, size), make([]byte, size+1), bytes.Repeat([]byte{255}, size), make([]byte, (n*widthOf(k)+7)/8)} {
					wantGetErr(t, laid(list, width, behind), n, api.ErrForm)
				}
				if width > widthOf(k) && width <= 64 {
					wantGetErr(t, wide(slices.Concat(list, often(list[0], n-k)), width), n, api.ErrForm)
				}
			}
		}
	}
	l := rising(9, api.MaxRows)
	for _, width := range []int{0, 15, 17, 64, 65} {
		wantGetErr(t, wide(l, width), len(l), api.ErrForm)
	}
}

// What is left of the last byte behind the last place is 0.
func TestGetLeftBits(t *testing.T) {
	for k := 2; k < 40; k++ {
		list := rising(3, k)
		for n := k; n < k+9; n++ {
			l := slices.Concat(list, often(list[0], n-k))
			b := form(l)
			wantGet(t, b, n, l)
			for bit := n * widthOf(k) % 8; bit%8 > 0; bit++ {
				turned := bytes.Clone(b)
				turned[len(b)-1] |= 1 << bit
				wantGetErr(t, turned, n, api.ErrForm)
			}
		}
	}
	// Such a bit is told ahead of a place that isn't in the list.
	abc := []string{"a", "b", "c"}
	wantGetErr(t, laid(abc, 2, []byte{0x64}), 3, api.ErrForm)
	wantGetErr(t, laid(abc, 2, []byte{0x34}), 3, api.ErrRange)
	wantGetErr(t, laid(abc, 2, []byte{0x74}), 3, api.ErrForm)
	wantGetErr(t, laid(abc[:2], 1, []byte{0x04}), 2, api.ErrForm)
}

// A place that isn't in the list, the one behind the last or beyond it, first or
// last or between, is told ahead of a text that is at no place.
func TestGetPlaceRange(t *testing.T) {
	for k := 3; k < 70; k++ {
		list := rising(9, k)
		for _, wrong := range []uint64{uint64(k), uint64(k) + 1, 1<<widthOf(k) - 1} {
			if wrong < uint64(k) || wrong >= 1<<widthOf(k) {
				continue
			}
			for i := range k + 1 {
				wantGetErr(t, at(list, slices.Insert(rangeOf(k), i, wrong)...), k+1, api.ErrRange)
			}
			for i := range k {
				places := rangeOf(k)
				places[i] = wrong
				wantGetErr(t, at(list, places...), k, api.ErrRange)
			}
			wantGetErr(t, at(list, slices.Repeat([]uint64{wrong}, k)...), k, api.ErrRange)
		}
	}
	const k = 1<<15 + 1
	list := rising(0, k)
	wantGet(t, at(list, rangeOf(k)...), k, list)
	wantGetErr(t, at(list, append(rangeOf(k), k)...), k+1, api.ErrRange)
	wantGetErr(t, at(list, append(rangeOf(k), 1<<16-1)...), k+1, api.ErrRange)
}

// textsAt is those at these places of the list.
func textsAt(list []string, places []uint64) []string {
	var l []string
	for _, place := range places {
		l = append(l, list[place])
	}
	return l
}

// A text of the list that is at no place: the first, the last, one between, more
// than one, and all but one.
func TestGetNoPlace(t *testing.T) {
	for k := 2; k < 70; k++ {
		list := rising(9, k)
		for i := range uint64(k) {
			places := rangeOf(k)
			places[i] = (i + 1) % uint64(k)
			wantGetErr(t, at(list, places...), k, api.ErrForm)
			places = append(places, places[i], places[0])
			wantGetErr(t, at(list, places...), len(places), api.ErrForm)
			wantGet(t, at(list, append(places, i)...), k+3, slices.Concat(textsAt(list, places), list[i:i+1]))
			wantGetErr(t, at(list, slices.Repeat([]uint64{i}, k)...), k, api.ErrForm)
		}
	}
	list := rising(0, api.MaxRows)
	for _, i := range []int{0, 1, 30000, api.MaxRows - 2, api.MaxRows - 1} {
		places := rangeOf(api.MaxRows)
		places[i] = 7777
		wantGetErr(t, at(list, places...), api.MaxRows, api.ErrForm)
	}
}

// Of several that hold, the first one read is told.
func TestGetFirstError(t *testing.T) {
	for _, x := range []struct {
		what string
		b    []byte
		n    int
		e    api.Errno
	}{
		{"bad count, no more", []byte{0x80, 0}, 3, api.ErrForm},
		{"count above, bad length", []byte{4, 0x80, 0}, 3, api.ErrRange},
		{"count above, nothing behind", []byte{4}, 3, api.ErrRange},
		{"greatest count, same texts", join(short(math.MaxUint64), []byte{0, 0, 0}), 3, api.ErrRange},
		{"bad first length, then the same twice", []byte{3, 0x80, 0, 0, 0}, 3, api.ErrForm},
		{"too long, then too short", []byte{3, 0x81, 0x80, 4}, 3, api.ErrLimit},
		{"short length, then nothing", []byte{3, 0, 0x80}, 3, api.ErrShort},
		{"the same, then too long", []byte{3, 0, 0, 0x81, 0x80, 4}, 3, api.ErrForm},
		{"the same, then short", []byte{3, 0, 0, 0x80}, 3, api.ErrForm},
		{"the same, then nothing", []byte{3, 0, 0}, 3, api.ErrForm},
		{"below, then wrong width", []byte{2, 1, 'b', 1, 'a', 7}, 3, api.ErrForm},
		{"too long, though it would be below", []byte{2, 1, 'b', 0x81, 0x80, 4, 'a'}, 3, api.ErrLimit},
		{"short, though it would be below", []byte{2, 1, 'b', 2, 'a'}, 3, api.ErrShort},
		{"no width", []byte{2, 0, 1, 'a'}, 3, api.ErrShort},
		{"wrong width, nothing behind", []byte{2, 0, 1, 'a', 2}, 3, api.ErrForm},
		{"wrong width, too many behind", []byte{2, 0, 1, 'a', 2, 0, 0, 0}, 3, api.ErrForm},
		{"too few, though places are out", []byte{3, 0, 1, 'a', 1, 'b', 2, 0xff}, 5, api.ErrShort},
		{"too many, though places are out", []byte{3, 0, 1, 'a', 1, 'b', 2, 0xff, 0xff}, 3, api.ErrLong},
		{"left bits, place out, text not there", []byte{3, 0, 1, 'a', 1, 'b', 2, 0xff}, 3, api.ErrForm},
		{"place out, text not there", []byte{3, 0, 1, 'a', 1, 'b', 2, 0x3f}, 3, api.ErrRange},
		{"text not there", []byte{3, 0, 1, 'a', 1, 'b', 2, 0x10}, 3, api.ErrForm},
		{"text not there, too many", []byte{3, 0, 1, 'a', 1, 'b', 2, 0x10, 0}, 3, api.ErrLong},
		{"all is right", []byte{3, 0, 1, 'a', 1, 'b', 2, 0x18}, 3, api.OK},
	} {
		if l, e := texts.Get(x.b, x.n); e != x.e || (e != api.OK && len(l) != 0) {
			t.Fatalf("%s: %q, error %d, not %d", x.what, l, e, x.e)
		}
	}
}

// The form of some texts is refused as that of others, or it is the form of
// another list: one of a single text, of as many as are asked for.
func TestGetOtherCounts(t *testing.T) {
	for _, l := range full(60) {
		b := form(l)
		for n := range 200 {
			wantAny(t, b, n)
		}
	}
	for n := 1; n < 20; n++ {
		wantGet(t, form(often("a", 9)), n, often("a", n))
	}
}

// All bytes up to two, for some counts.
func TestGetAnyBytes(t *testing.T) {
	for n := -1; n < 4; n++ {
		wantAny(t, nil, n)
		for v := range 1 << 8 {
			wantAny(t, []byte{byte(v)}, n)
		}
		for v := range 1 << 16 {
			wantAny(t, []byte{byte(v), byte(v >> 8)}, n)
		}
	}
}

// All bytes behind some lists: a width and a byte of places, and two of a text
// of the list ahead of them.
func TestGetAnyPlaces(t *testing.T) {
	for _, list := range [][]byte{{1, 1, 'a'}, {2, 0, 1, 'a'}, {3, 0, 1, 0, 1, 1}, {4, 0, 1, 0, 2, 0, 0, 2, 0, 1}, {5, 1, 1, 1, 2, 1, 3, 1, 4, 1, 5}} {
		for n := int(list[0]); n < int(list[0])+2; n++ {
			for v := range 1 << 16 {
				wantAny(t, append(bytes.Clone(list), byte(v), byte(v>>8)), n)
			}
		}
	}
	for v := range 1 << 16 {
		wantAny(t, []byte{2, 1, 'a', byte(v), byte(v >> 8), 1, 2}, 2)
		wantAny(t, []byte{2, 1, byte(v), 1, byte(v >> 8), 1, 1}, 2)
		wantAny(t, []byte{5, 1, 1, 1, 2, 1, 3, 1, 4, 1, 5, 3, byte(v), byte(v >> 8)}, 5)
	}
}

// Up to six of the bytes at which something changes, for all counts that they
// may have.
func TestGetEdgeBytes(t *testing.T) {
	some := []byte{0, 1, 2, 3, 0x80, 0x81}
	for size, k := 0, 1; size < 7; size, k = size+1, k*len(some) {
		for v := range k {
			b := make([]byte, size)
			for i := range b {
				b[i] = some[v%len(some)]
				v /= len(some)
			}
			for n := range 6 {
				wantAny(t, b, n)
			}
		}
	}
}

// Bytes of which one is turned, left out, or put in, at each place.
func TestGetTurnedBytes(t *testing.T) {
	for _, l := range [][]string{{"ab", "abc", "a", "a", ""}, {"\xff", "\x80", "", "é", "z"}, often("abc", 4), mixed(12, 5), mixed(9, 9)} {
		b := form(l)
		for i := range b {
			for n := len(l) - 1; n < len(l)+2; n++ {
				for v := range 1 << 8 {
					turned := bytes.Clone(b)
					turned[i] = byte(v)
					wantAny(t, turned, n)
					wantAny(t, slices.Insert(bytes.Clone(b), i, byte(v)), n)
				}
				wantAny(t, slices.Delete(bytes.Clone(b), i, i+1), n)
			}
		}
	}
}

// P13.2

func TestPutIsRead(t *testing.T) {
	lists := [][]string{nil, odd(), listed(odd())}
	for _, n := range []int{0, 1, 2, 3, 100, 2000, api.MaxRows} {
		lists = append(lists, full(n)...)
	}
	for _, l := range lists {
		b, e := texts.Put(l)
		if e != api.OK {
			t.Fatalf("%d texts %.20q: error %d", len(l), l, e)
		}
		wantGet(t, b, len(l), l)
	}
}

// All lists of up to six of five texts; those of as many texts have all other
// forms.
func TestAllShortLists(t *testing.T) {
	some := []string{"", "a", "ab", "\xff", "\x00"}
	for size, k := 0, 1; size < 7; size, k = size+1, k*len(some) {
		seen := map[string]int{}
		for v := range k {
			l := make([]string, size)
			for i := range l {
				l[i] = some[v%len(some)]
				v /= len(some)
			}
			b := form(l)
			both(t, l, b)
			seen[string(b)]++
		}
		if len(seen) != k {
			t.Fatalf("%d lists of %d texts, %d forms", k, size, len(seen))
		}
	}
}

func TestReadIsPut(t *testing.T) {
	for k := range 4000 {
		count := k%67 + 1
		list := listed(some(count))
		places := rangeOf(count)
		for i := range k % 23 {
			places = slices.Insert(places, i*7%len(places), chance(k+i)%uint64(count))
		}
		slices.Reverse(places[k%len(places):])
		b := at(list, places...)
		got, e := texts.Get(b, len(places))
		if e != api.OK || !slices.Equal(got, textsAt(list, places)) {
			t.Fatalf("%d of %x: %q, error %d", len(places), b, got, e)
		}
		wantPut(t, got, b)
	}
}

// Memory (R4) and one answer (R7).

func TestPutLeavesWhatIsHandedIn(t *testing.T) {
	room := mixed(900, 20)
	l := room[300:600]
	kept := slices.Clone(room)
	want := form(l)
	b, _ := texts.Put(l)
	c, _ := texts.Put(l)
	if !slices.Equal(room, kept) {
		t.Fatal("the list isn't what it was")
	}
	for i := range b {
		b[i] ^= 0xff
	}
	_ = append(b, 1, 2, 3)
	if !bytes.Equal(c, want) || !slices.Equal(room, kept) {
		t.Fatal("answers share memory")
	}
	wantPut(t, l, want)
	clear(l)
	if !bytes.Equal(c, want) {
		t.Fatal("the answer changed with the list")
	}
	wantPut(t, l, form(make([]string, 300)))
}

func TestListLeavesWhatIsHandedIn(t *testing.T) {
	for _, room := range [][]string{mixed(900, 20), rising(0, 900), falling(rising(0, 900)), often("a", 900)} {
		l := room[300:600]
		kept := slices.Clone(room)
		a := texts.List(l)
		b := texts.List(l)
		want := slices.Clone(b)
		if !slices.Equal(room, kept) {
			t.Fatal("the list isn't what it was")
		}
		clear(a)
		_ = append(a, "x", "y", "z")
		if !slices.Equal(b, want) || !slices.Equal(room, kept) {
			t.Fatal("answers share memory")
		}
		clear(l)
		if !slices.Equal(b, want) {
			t.Fatal("the answer changed with the list")
		}
	}
	one := []string{"a"}
	texts.List(one)[0] = "b"
	if one[0] != "a" {
		t.Fatal("an answer of one text is the list")
	}
}

// What lies behind a list in its memory, and ahead of it, isn't read.
func TestNotAround(t *testing.T) {
	room := mixed(300, 100)
	for n := range 150 {
		l := slices.Clone(room[n : 2*n])
		wantPut(t, room[n:2*n], form(l))
		wantList(t, room[n:2*n], listed(l))
	}
	room[10] = long(api.MaxText + 1)
	wantPut(t, room[:10], form(room[:10]))
	wantPut(t, room[11:], form(room[11:]))
	wantPutErr(t, room[:11], api.ErrLimit)
	wantPutErr(t, room[10:], api.ErrLimit)
}

// What lies behind the bytes in their memory isn't read: it would make right
// what is too short.
func TestGetLeavesWhatIsHandedIn(t *testing.T) {
	want := mixed(900, 20)
	room := join(form(want), form(want))
	kept := bytes.Clone(room)
	b := room[:len(form(want))]
	l, _ := texts.Get(b, len(want))
	m, _ := texts.Get(b, len(want))
	for _, end := range []int{0, 1, 2, 10, 100, len(b) - 1} {
		wantGetErr(t, room[:end], len(want), api.ErrShort)
	}
	wantGetErr(t, room, len(want), api.ErrLong)
	if !bytes.Equal(room, kept) {
		t.Fatal("the bytes aren't what they were")
	}
	clear(l)
	_ = append(l, "x", "y", "z")
	if !slices.Equal(m, want) || !bytes.Equal(room, kept) {
		t.Fatal("answers share memory")
	}
	clear(b)
	if !slices.Equal(m, want) {
		t.Fatal("the answer changed with the bytes")
	}
}

// An answer hangs on nothing that was asked ahead of it, an error least of all.
func TestOneAnswer(t *testing.T) {
	l := mixed(500, 40)
	b := form(l)
	for range 20 {
		both(t, l, b)
		wantList(t, l, listed(l))
		wantGetErr(t, b[:len(b)-1], len(l), api.ErrShort)
		both(t, nil, []byte{0, 0})
		wantGetErr(t, b, -1, api.ErrArg)
		wantGetErr(t, []byte{0x80, 0}, 1, api.ErrForm)
		wantGetErr(t, b, 39, api.ErrRange)
		wantGetErr(t, []byte{1, 0x81, 0x80, 4}, 1, api.ErrLimit)
		wantGetErr(t, wide(l, 7), len(l), api.ErrForm)
		wantGetErr(t, append(bytes.Clone(b), 0), len(l), api.ErrLong)
		wantPutErr(t, make([]string, api.MaxRows+1), api.ErrLimit)
	}
}
