package value_test

import (
	"bytes"
	"encoding/binary"
	"math"
	"slices"
	"strings"
	"testing"

	"estreat/api"
	"estreat/num"
	"estreat/value"
)

// aheads are bytes that something is put behind.
func aheads() [][]byte {
	return [][]byte{nil, {}, {0}, {7, 8}, bytes.Repeat([]byte{0xee}, 300)}
}

// P15.2: Put

func wantPut(t *testing.T, v api.Value, want []byte) {
	t.Helper()
	for _, b := range aheads() {
		if p := value.Put(b, v); !bytes.Equal(p, join(b, want)) {
			t.Fatalf("%.40v behind %.9x: %.40x, not %.40x", v, b, p, want)
		}
	}
	if !bytes.Equal(formOf(v), want) {
		t.Fatalf("%.40v: by the document %.40x, not %.40x", v, formOf(v), want)
	}
}

func TestPut(t *testing.T) {
	wantPut(t, nothing, []byte{0})
	wantPut(t, number(0), []byte{1, 0})
	wantPut(t, number(-1), []byte{1, 1})
	wantPut(t, number(1), []byte{1, 2})
	wantPut(t, number(-64), []byte{1, 127})
	wantPut(t, number(64), []byte{1, 128, 1})
	wantPut(t, number(150), []byte{1, 0xac, 2})
	wantPut(t, number(math.MaxInt64), []byte{1, 254, 255, 255, 255, 255, 255, 255, 255, 255, 1})
	wantPut(t, number(math.MinInt64), []byte{1, 255, 255, 255, 255, 255, 255, 255, 255, 255, 1})
	wantPut(t, text(""), []byte{2, 0})
	wantPut(t, text("a"), []byte{2, 1, 'a'})
	wantPut(t, text("\x00\xff\xc3"), []byte{2, 3, 0, 255, 0xc3})
	wantPut(t, text(long(127)), join([]byte{2, 127}, []byte(long(127))))
	wantPut(t, text(long(128)), join([]byte{2, 128, 1}, []byte(long(128))))
	wantPut(t, text(long(api.MaxText)), join([]byte{2, 0x80, 0x80, 4}, []byte(long(api.MaxText))))
	wantPut(t, text(long(api.MaxText+1)), join([]byte{2, 0x81, 0x80, 4}, []byte(long(api.MaxText+1))))
	for _, n := range edges() {
		wantPut(t, number(n), binary.AppendVarint([]byte{1}, n))
	}
}

func TestPutOfWhatAKindDoesntHave(t *testing.T) {
	wantPut(t, api.Value{N: 5, S: "a"}, []byte{0})
	wantPut(t, api.Value{Kind: api.KInt, N: 5, S: "a"}, []byte{1, 10})
	wantPut(t, api.Value{Kind: api.KText, N: 5, S: "a"}, []byte{2, 1, 'a'})
}

// A Kind whose lowest eight bits are a number's or a text's is another Kind: nothing
// comes behind it.
func TestPutOfAnotherKind(t *testing.T) {
	for _, x := range []struct {
		kind int
		b    byte
	}{
		{3, 3}, {4, 4}, {255, 255}, {256, 0}, {257, 1}, {258, 2}, {259, 3}, {-1, 255}, {-2, 254}, {-254, 2}, {-255, 1}, {-256, 0},
		{math.MaxInt, 255}, {math.MinInt, 0}, {math.MinInt + 1, 1}, {math.MinInt + 2, 2}, {1 << 32, 0}, {1<<32 + 1, 1}, {1<<32 + 2, 2}, {1<<63 - 254, 2},
	} {
		wantPut(t, api.Value{Kind: x.kind}, []byte{x.b})
		wantPut(t, api.Value{Kind: x.kind, N: 300, S: "abc"}, []byte{x.b})
	}
}

// P15.2: PutSchema

func wantPutSchema(t *testing.T, s []api.Column, want []byte) {
	t.Helper()
	if b := value.PutSchema(s); !bytes.Equal(b, want) || !bytes.Equal(b, schemaForm(s)) {
		t.Fatalf("%.99v: %.99x, not %.99x", s, b, want)
	}
}

func TestPutSchema(t *testing.T) {
	wantPutSchema(t, []api.Column{ints()}, []byte{1, 1, 0, 0})
	wantPutSchema(t, []api.Column{intsNull()}, []byte{1, 1, 1, 0})
	wantPutSchema(t, []api.Column{texts()}, []byte{1, 2, 0, 0})
	wantPutSchema(t, []api.Column{textsNull()}, []byte{1, 2, 1, 0})
	for way := -1; way < 6; way++ {
		wantPutSchema(t, []api.Column{{Kind: 1, Way: way}, {Kind: 2, Null: true, Way: way}}, []byte{2, 1, 0, byte(way + 1), 2, 1, byte(way + 1)})
	}
	wantPutSchema(t, []api.Column{{Kind: api.KInt, Null: true, Way: api.Fore}, {Kind: api.KText, Way: api.Texts}, ints()}, []byte{3, 1, 1, 5, 2, 0, 6, 1, 0, 0})
	wantPutSchema(t, slices.Repeat([]api.Column{{Kind: api.KInt}}, 64), join([]byte{64}, bytes.Repeat([]byte{1, 0, 1}, 64)))
}

func TestPutSchemaThatIsntRight(t *testing.T) {
	wantPutSchema(t, nil, []byte{0})
	wantPutSchema(t, []api.Column{}, []byte{0})
	for _, n := range []int{65, 127, 128, 255, 256, 257, 300, 511, 512, 1 << 16, 1<<16 + 2} {
		wantPutSchema(t, slices.Repeat([]api.Column{{Kind: api.KText, Null: true}}, n), join([]byte{byte(n % 256)}, bytes.Repeat([]byte{2, 1, 1}, n)))
	}
	for _, x := range []struct {
		n         int
		kind, way byte
	}{
		{0, 0, 1}, {3, 3, 4}, {254, 254, 255}, {255, 255, 0}, {256, 0, 1}, {257, 1, 2}, {258, 2, 3}, {-1, 255, 0}, {-2, 254, 255}, {-255, 1, 2}, {-256, 0, 1}, {-257, 255, 0},
		{math.MaxInt, 255, 0}, {math.MaxInt - 1, 254, 255}, {math.MinInt, 0, 1}, {math.MinInt + 1, 1, 2}, {1 << 32, 0, 1}, {1<<32 - 1, 255, 0}, {-1 << 32, 0, 1},
	} {
		wantPutSchema(t, []api.Column{{Kind: x.n, Way: x.n}}, []byte{1, x.kind, 0, x.way})
		wantPutSchema(t, []api.Column{ints(), {Kind: x.n, Null: true, Way: x.n}}, []byte{2, 1, 0, 0, x.kind, 1, x.way})
	}
	for _, n := range oddNumbers() {
		s := []api.Column{{Kind: n, Way: n}}
		wantPutSchema(t, s, schemaForm(s))
	}
}

// P15.2: PutRows

func wantPutRows(t *testing.T, rows [][]api.Value, want []byte) {
	t.Helper()
	for _, b := range aheads() {
		if p := value.PutRows(b, rows); !bytes.Equal(p, join(b, want)) {
			t.Fatalf("%d rows %.99v behind %.9x: %.99x, not %.99x", len(rows), rows, b, p, want)
		}
	}
	if !bytes.Equal(rowsForm(rows), want) {
		t.Fatalf("%d rows %.99v: by the document %.99x, not %.99x", len(rows), rows, rowsForm(rows), want)
	}
}

func TestPutRows(t *testing.T) {
	wantPutRows(t, nil, []byte{0})
	wantPutRows(t, [][]api.Value{}, []byte{0})
	wantPutRows(t, [][]api.Value{nil}, []byte{1})
	wantPutRows(t, [][]api.Value{nil, {}, nil}, []byte{3})
	wantPutRows(t, [][]api.Value{{nothing}}, []byte{1, 0})
	wantPutRows(t, [][]api.Value{{number(150)}}, []byte{1, 1, 0xac, 2})
	wantPutRows(t, [][]api.Value{{number(1), text("ab"), nothing}}, []byte{1, 1, 2, 2, 2, 'a', 'b', 0})
	wantPutRows(t, [][]api.Value{{number(1), text("a")}, {nothing, text("")}, {number(-1), nothing}}, []byte{3, 1, 2, 2, 1, 'a', 0, 2, 0, 1, 1, 0})
	for _, n := range []int{127, 128, 300, 1 << 14, api.MaxRows, api.MaxRows + 1} {
		count := binary.AppendUvarint(nil, uint64(n))
		wantPutRows(t, make([][]api.Value, n), count)
		wantPutRows(t, slices.Repeat([][]api.Value{{number(3), nothing}}, n), join(count, bytes.Repeat([]byte{1, 6, 0}, n)))
	}
}

// Rows of other than as many values, and values that may not stand, are put, too.
func TestPutRowsThatArentRight(t *testing.T) {
	wantPutRows(t, [][]api.Value{{number(1)}, nil, {text("a"), nothing, number(2)}}, []byte{3, 1, 2, 2, 1, 'a', 0, 1, 4})
	wantPutRows(t, [][]api.Value{{{Kind: 257, N: 5}, {Kind: -1, S: "a"}}, {{N: 5, S: "a"}, {Kind: 1, N: 5, S: "a"}}}, []byte{2, 1, 255, 0, 1, 10})
	wantPutRows(t, [][]api.Value{slices.Repeat([]api.Value{nothing}, 100)}, join([]byte{1}, make([]byte, 100)))
	tooLong := text(long(api.MaxText + 1))
	wantPutRows(t, [][]api.Value{{tooLong, tooLong}}, join([]byte{1}, formOf(tooLong), formOf(tooLong)))
}

// P15.2 and P15.3: Take of what is put, whatever comes behind it.

func TestTake(t *testing.T) {
	l := []api.Value{nothing}
	for _, n := range edges() {
		l = append(l, number(n))
	}
	for _, w := range append(wordsOf(), long(127), long(128), long(1<<14), long(api.MaxText-1), long(api.MaxText)) {
		l = append(l, text(w))
	}
	for _, v := range l {
		b := value.Put(nil, v)
		wantTake(t, b, v, api.OK, len(b))
		wantTake(t, join(b, []byte{0xff, 0}), v, api.OK, len(b))
		wantTake(t, join(b, b), v, api.OK, len(b))
	}
	var all []byte
	for _, v := range l {
		all = value.Put(all, v)
	}
	r := num.NewReader(all)
	for _, v := range l {
		if got := value.Take(r); got != v {
			t.Fatalf("%.40v, not %.40v", got, v)
		}
	}
	if e, at := r.End(); e != api.OK || at != 0 {
		t.Fatalf("error %d at %d behind all", e, at)
	}
}

func TestTakeThatEndsEarly(t *testing.T) {
	wantTake(t, nil, nothing, api.ErrShort, 0)
	wantTake(t, []byte{1}, nothing, api.ErrShort, 1)
	wantTake(t, []byte{1, 0x80}, nothing, api.ErrShort, 1)
	wantTake(t, []byte{1, 255, 255, 255, 255, 255, 255, 255, 255, 255}, nothing, api.ErrShort, 1)
	wantTake(t, []byte{2}, nothing, api.ErrShort, 1)
	wantTake(t, []byte{2, 0x81}, nothing, api.ErrShort, 1)
	wantTake(t, []byte{2, 1}, nothing, api.ErrShort, 1)
	wantTake(t, []byte{2, 3, 'a', 'b'}, nothing, api.ErrShort, 1)
	wantTake(t, []byte{2, 0x80, 0x80, 4}, nothing, api.ErrShort, 1)
	b := value.Put(nil, text(long(api.MaxText)))
	wantTake(t, b[:len(b)-1], nothing, api.ErrShort, 1)
}

func TestTakeOfANumberThatCantBe(t *testing.T) {
	for _, kind := range []byte{1, 2} {
		wantTake(t, []byte{kind, 0x80, 0}, nothing, api.ErrForm, 1)
		wantTake(t, []byte{kind, 0x81, 0x80, 0, 5}, nothing, api.ErrForm, 1)
		wantTake(t, []byte{kind, 255, 255, 255, 255, 255, 255, 255, 255, 255, 2}, nothing, api.ErrForm, 1)
		wantTake(t, []byte{kind, 128, 128, 128, 128, 128, 128, 128, 128, 128, 128, 1}, nothing, api.ErrForm, 1)
		wantTake(t, []byte{kind, 255, 255, 255, 255, 255, 255, 255, 255, 255, 129, 1}, nothing, api.ErrForm, 1)
		wantTake(t, bytes.Repeat([]byte{255}, 20), nothing, api.ErrForm, 1)
	}
}

func TestTakeOfAKindThatIsNone(t *testing.T) {
	for kind := 3; kind < 256; kind++ {
		wantTake(t, []byte{byte(kind)}, nothing, api.ErrForm, 1)
		wantTake(t, []byte{byte(kind), 2}, nothing, api.ErrForm, 1)
		wantTake(t, []byte{byte(kind), 1, 'a', 0}, nothing, api.ErrForm, 1)
	}
}

func TestTakeOfALongText(t *testing.T) {
	for _, n := range []int{api.MaxText + 1, api.MaxText + 2, 2 * api.MaxText, 1 << 20} {
		b := value.Put(nil, text(long(n)))
		wantTake(t, b, nothing, api.ErrLimit, 1)
		wantTake(t, b[:len(b)-1], nothing, api.ErrLimit, 1)
		wantTake(t, b[:4], nothing, api.ErrLimit, 1)
	}
	for _, n := range []uint64{1 << 31, 1 << 32, 1<<32 + 1, 1 << 62, 1<<63 - 1, 1 << 63, 1<<63 + 1, math.MaxUint64} {
		wantTake(t, binary.AppendUvarint([]byte{2}, n), nothing, api.ErrLimit, 1)
		wantTake(t, join(binary.AppendUvarint([]byte{2}, n), []byte("abc")), nothing, api.ErrLimit, 1)
	}
	// A length that has ended early is told ahead of that it is too great.
	wantTake(t, []byte{2, 255, 255, 255}, nothing, api.ErrShort, 1)
}

func TestTakeOfAnyBytes(t *testing.T) {
	allBytes([]byte{0, 1, 2, 3, 'a', 127, 128, 255}, 5, func(b []byte) { anyValue(t, b) })
	for i := range 256 {
		for j := range 256 {
			anyValue(t, []byte{byte(i), byte(j), 1, 2})
		}
	}
	for _, v := range []api.Value{number(math.MinInt64), number(math.MaxInt64), number(12345), text("some text"), text(long(200)), text(long(3) + "\x00\xff")} {
		turned(value.Put(nil, v), func(b []byte) { anyValue(t, b) })
	}
	for i := range 3000 {
		b := binary.LittleEndian.AppendUint64([]byte{byte(chance(i) % 4)}, chance(i+7)>>(i%64))
		anyValue(t, binary.LittleEndian.AppendUint64(b, chance(i+9)))
	}
}

// P15.2 and P15.3: TakeSchema

// schemasOf is right schemas of so many columns.
func schemasOf(n int) [][]api.Column {
	out := make([][]api.Column, 6)
	for i := range out {
		for j := range n {
			v := int(chance(j*7+i) >> 8 % 64)
			c := api.Column{Kind: 1 + v&1, Null: v&2 > 0, Way: api.Auto}
			if v&4 > 0 {
				ways := waysOf(c.Kind)
				c.Way = ways[v>>3%len(ways)]
			}
			out[i] = append(out[i], c)
		}
	}
	return out
}

func TestTakeSchema(t *testing.T) {
	for n := 1; n <= 64; n++ {
		for _, s := range append(schemasOf(n), slices.Repeat([]api.Column{intsNull()}, n), slices.Repeat([]api.Column{texts()}, n)) {
			b := value.PutSchema(s)
			wantTakeSchema(t, b, s, api.OK, 1+3*n)
			wantTakeSchema(t, join(b, []byte{0, 9}), s, api.OK, 1+3*n)
		}
	}
	for _, kind := range []int{api.KInt, api.KText} {
		for _, way := range waysOf(kind) {
			for _, null := range []bool{false, true} {
				s := []api.Column{{Kind: kind, Null: null, Way: way}}
				wantTakeSchema(t, value.PutSchema(s), s, api.OK, 4)
			}
		}
	}
}

func TestTakeSchemaThatEndsEarly(t *testing.T) {
	wantTakeSchema(t, nil, nil, api.ErrShort, 0)
	b := value.PutSchema([]api.Column{ints(), textsNull(), {Kind: api.KText, Way: api.Texts}})
	for i := range b {
		wantTakeSchema(t, b[:i], nil, api.ErrShort, i)
	}
	for n := 1; n < 256; n++ {
		wantTakeSchema(t, []byte{byte(n)}, nil, api.ErrShort, 1)
		wantTakeSchema(t, join([]byte{byte(n)}, bytes.Repeat([]byte{1, 1, 0}, n-1)), nil, api.ErrShort, 3*n-2)
		wantTakeSchema(t, join([]byte{byte(n)}, bytes.Repeat([]byte{1, 1, 0}, n-1), []byte{1, 1}), nil, api.ErrShort, 3*n)
	}
	// Kinds and ways that are none aren't told where the bytes end ahead of the end.
	wantTakeSchema(t, []byte{2, 9, 0, 9, 9}, nil, api.ErrShort, 5)
}

// A second byte above 1 is told behind its column, ahead of what comes behind it; where
// that column ends early, it is that which is told.
func TestTakeSchemaOfASecondByteAbove1(t *testing.T) {
	for null := 2; null < 256; null++ {
		wantTakeSchema(t, []byte{1, 1, byte(null), 0}, nil, api.ErrForm, 4)
		wantTakeSchema(t, []byte{1, 9, byte(null), 99}, nil, api.ErrForm, 4)
		wantTakeSchema(t, []byte{3, 1, byte(null), 0}, nil, api.ErrForm, 4)
		wantTakeSchema(t, []byte{3, 1, byte(null), 0, 2, 0, 0, 2, 5, 0}, nil, api.ErrForm, 4)
		wantTakeSchema(t, []byte{3, 1, 0, 0, 2, byte(null), 0, 2, 0, 0}, nil, api.ErrForm, 7)
		wantTakeSchema(t, []byte{3, 9, 0, 99, 2, 1, 0, 2, byte(null), 0}, nil, api.ErrForm, 10)
		wantTakeSchema(t, []byte{65, 1, byte(null), 0}, nil, api.ErrForm, 4)
		wantTakeSchema(t, []byte{1, 1, byte(null)}, nil, api.ErrShort, 3)
		wantTakeSchema(t, []byte{2, 1, 0, 0, 1, byte(null)}, nil, api.ErrShort, 6)
	}
}

func TestTakeSchemaThatIsntRight(t *testing.T) {
	wantTakeSchema(t, []byte{0}, nil, api.ErrLimit, 1)
	wantTakeSchema(t, []byte{0, 1, 0, 0}, nil, api.ErrLimit, 1)
	for n := 65; n < 256; n++ {
		for _, c := range [][]byte{{1, 0, 0}, {2, 1, 6}, {0, 0, 0}, {1, 0, 9}} {
			wantTakeSchema(t, join([]byte{byte(n)}, bytes.Repeat(c, n), []byte{1, 2}), nil, api.ErrLimit, 1+3*n)
		}
	}
	for kind := range 256 {
		for _, way := range []int{-1, 0, 1, 4, 5, 6, 7, 127, 128, 253, 254} {
			c := []byte{byte(kind), 1, byte(way + 1)}
			e := schemaRefusal([]api.Column{{Kind: kind, Null: true, Way: way}})
			if e == api.OK {
				continue
			}
			wantTakeSchema(t, join([]byte{1}, c), nil, e, 4)
			wantTakeSchema(t, join([]byte{3}, c, []byte{1, 0, 0, 2, 0, 0}), nil, e, 10)
			wantTakeSchema(t, join([]byte{3, 1, 0, 0}, c, []byte{2, 0, 0}), nil, e, 10)
			wantTakeSchema(t, join([]byte{3, 1, 0, 0, 2, 0, 0}, c, []byte{3}), nil, e, 10)
		}
	}
	wantTakeSchema(t, []byte{1, 1, 0, 6}, nil, api.ErrArg, 4)
	wantTakeSchema(t, []byte{1, 2, 0, 1}, nil, api.ErrArg, 4)
	wantTakeSchema(t, []byte{1, 0, 0, 0}, nil, api.ErrKind, 4)
	wantTakeSchema(t, []byte{2, 1, 0, 6, 3, 0, 0}, nil, api.ErrKind, 7)
}

func TestTakeSchemaOfAnyBytes(t *testing.T) {
	allBytes([]byte{0, 1, 2, 6, 255}, 7, func(b []byte) { anySchema(t, b) })
	allBytes([]byte{0, 1, 2, 3, 4, 5, 6, 7, 255}, 4, func(b []byte) { anySchema(t, b) })
	for kind := range 256 {
		for way := range 256 {
			anySchema(t, []byte{1, byte(kind), 1, byte(way)})
		}
	}
	for _, n := range []int{1, 2, 5, 63, 64} {
		for _, s := range schemasOf(n) {
			turned(value.PutSchema(s), func(b []byte) { anySchema(t, b) })
		}
	}
}

// P15.2 and P15.3: TakeRows

// rowOf is a row that is right for s, another one for each seed.
func rowOf(s []api.Column, seed int) []api.Value {
	var row []api.Value
	for i, c := range s {
		v := chance(seed*131 + i)
		words := wordsOf()
		switch {
		case c.Null && v%3 == 0:
			row = append(row, nothing)
		case c.Kind == api.KInt:
			row = append(row, number(int64(chance(seed+i))>>(v%64)))
		default:
			row = append(row, text(strings.Repeat(words[v%uint64(len(words))], int(v>>8%40))))
		}
	}
	return row
}

func rowsOf(s []api.Column, n int) [][]api.Value {
	rows := make([][]api.Value, n)
	for i := range rows {
		rows[i] = rowOf(s, i*17+n)
	}
	return rows
}

func TestTakeRows(t *testing.T) {
	for _, columns := range []int{1, 2, 3, 10, 64} {
		for _, s := range schemasOf(columns) {
			for _, n := range []int{0, 1, 2, 3, 127, 128} {
				rows := rowsOf(s, n)
				b := value.PutRows(nil, rows)
				wantTakeRows(t, b, s, rows, api.OK, len(b))
				wantTakeRows(t, join(b, []byte{1, 2, 3}), s, rows, api.OK, len(b))
			}
		}
	}
	s := []api.Column{texts(), textsNull(), ints()}
	rows := [][]api.Value{{text(long(api.MaxText)), nothing, number(math.MinInt64)}, {text(""), text(long(api.MaxText)), number(math.MaxInt64)}}
	b := value.PutRows([]byte{5, 5}, rows)
	wantTakeRows(t, b[2:], s, rows, api.OK, len(b)-2)
}

func TestTakeRowsOfHowMany(t *testing.T) {
	one := []api.Column{intsNull()}
	for _, n := range []int{0, 1, 127, 128, 1<<14 - 1, 1 << 14, api.MaxRows - 1, api.MaxRows} {
		rows := slices.Repeat([][]api.Value{{number(3)}}, n)
		b := value.PutRows(nil, rows)
		wantTakeRows(t, b, one, rows, api.OK, len(b))
		if n > 0 {
			wantTakeRows(t, b[:len(b)-1], one, nil, api.ErrShort, len(b)-1)
			wantTakeRows(t, b[:len(b)-2], one, nil, api.ErrShort, len(b)-2)
		}
	}
	rows := slices.Repeat([][]api.Value{{number(3)}}, api.MaxRows+1)
	wantTakeRows(t, value.PutRows(nil, rows), one, nil, api.ErrLimit, 3)
	for _, n := range []uint64{api.MaxRows + 1, api.MaxRows + 2, 2 * api.MaxRows, 1 << 31, 1 << 32, 1<<32 + 1, 1 << 62, 1<<63 - 1, 1 << 63, 1<<63 + 1, math.MaxUint64 - 1, math.MaxUint64} {
		count := binary.AppendUvarint(nil, n)
		for _, s := range [][]api.Column{nil, one, {texts(), ints()}} {
			wantTakeRows(t, count, s, nil, api.ErrLimit, len(count))
			wantTakeRows(t, join(count, []byte{1, 2, 3}), s, nil, api.ErrLimit, len(count))
		}
	}
	wantTakeRows(t, nil, one, nil, api.ErrShort, 0)
	wantTakeRows(t, []byte{0x80}, one, nil, api.ErrShort, 0)
	wantTakeRows(t, []byte{255, 255, 255, 255}, one, nil, api.ErrShort, 0)
	wantTakeRows(t, []byte{0x81, 0, 0, 0}, one, nil, api.ErrForm, 0)
	wantTakeRows(t, []byte{255, 255, 255, 255, 255, 255, 255, 255, 255, 2}, one, nil, api.ErrForm, 0)
}

func TestTakeRowsOfASchemaOfNoColumn(t *testing.T) {
	for _, s := range [][]api.Column{nil, {}, []api.Column{ints()}[:0]} {
		for _, n := range []int{0, 1, 5, 127, 128, api.MaxRows} {
			count := binary.AppendUvarint(nil, uint64(n))
			rows := make([][]api.Value, n)
			wantTakeRows(t, count, s, rows, api.OK, len(count))
			wantTakeRows(t, join(count, []byte{9}), s, rows, api.OK, len(count))
		}
	}
}

func TestTakeRowsOfAValueThatCantBe(t *testing.T) {
	s := []api.Column{ints(), textsNull()}
	ok := []byte{1, 2, 2, 1, 'a'}
	for _, x := range []struct {
		b  []byte
		e  api.Errno
		at int
	}{
		{nil, api.ErrShort, 0}, {[]byte{1}, api.ErrShort, 1}, {[]byte{1, 0x80}, api.ErrShort, 1}, {[]byte{1, 0x80, 0}, api.ErrForm, 1},
		{[]byte{3}, api.ErrForm, 1}, {[]byte{255, 0, 0}, api.ErrForm, 1}, {[]byte{1, 2, 3}, api.ErrForm, 3}, {[]byte{1, 2, 2}, api.ErrShort, 3},
		{[]byte{1, 2}, api.ErrShort, 2}, {[]byte{1, 2, 2, 2, 'a'}, api.ErrShort, 3}, {[]byte{1, 2, 2, 0x81, 0, 'a'}, api.ErrForm, 3},
		{[]byte{1, 2, 2, 0x81, 0x80, 4, 'a'}, api.ErrLimit, 3}, {[]byte{1, 2, 2, 255, 255, 255, 255, 255, 255, 255, 255, 255, 1}, api.ErrLimit, 3},
	} {
		wantTakeRows(t, join([]byte{1}, x.b), s, nil, x.e, 1+x.at)
		wantTakeRows(t, join([]byte{3}, ok, x.b), s, nil, x.e, 6+x.at)
		wantTakeRows(t, join([]byte{3}, ok, ok, x.b), s, nil, x.e, 11+x.at)
	}
	tooLong := value.PutRows(nil, [][]api.Value{{number(1), text(long(api.MaxText + 1))}})
	wantTakeRows(t, tooLong, s, nil, api.ErrLimit, 4)
}

// A value that may not stand in its column is told behind the row, behind what is wrong
// in the row's bytes, and ahead of what is wrong in the rows behind it.
func TestTakeRowsThatArentRight(t *testing.T) {
	s := []api.Column{ints(), textsNull(), texts()}
	ok := []byte{1, 2, 0, 2, 0}
	for _, row := range [][]api.Value{
		{nothing, nothing, text("")}, {text("a"), nothing, text("")}, {text("a"), number(1), text("")}, {number(1), number(1), text("")},
		{number(1), nothing, nothing}, {number(1), text("a"), number(3)}, {number(1), text("a"), nothing},
	} {
		b := value.PutRows(nil, [][]api.Value{row})[1:]
		wantTakeRows(t, join([]byte{1}, b), s, nil, api.ErrKind, 1+len(b))
		wantTakeRows(t, join([]byte{1}, b, ok), s, nil, api.ErrKind, 1+len(b))
		wantTakeRows(t, join([]byte{2}, b), s, nil, api.ErrKind, 1+len(b))
		wantTakeRows(t, join([]byte{2}, b, []byte{9}), s, nil, api.ErrKind, 1+len(b))
		wantTakeRows(t, join([]byte{3}, ok, b, ok), s, nil, api.ErrKind, 6+len(b))
		wantTakeRows(t, join([]byte{3}, ok, ok, b), s, nil, api.ErrKind, 11+len(b))
		wantTakeRows(t, join([]byte{3}, ok, b, []byte{1, 0x80, 0}), s, nil, api.ErrKind, 6+len(b))
	}
	wantTakeRows(t, []byte{1, 0, 0, 3}, s, nil, api.ErrForm, 4)
	wantTakeRows(t, []byte{1, 0, 0}, s, nil, api.ErrShort, 3)
	wantTakeRows(t, []byte{1, 0, 0, 2, 5}, s, nil, api.ErrShort, 4)
}

// A schema that isn't right is taken as it is: its rows are asked of Row alone.
func TestTakeRowsOfASchemaThatIsntRight(t *testing.T) {
	wantTakeRows(t, []byte{1, 1, 2}, []api.Column{{Kind: 3}}, nil, api.ErrKind, 3)
	wantTakeRows(t, []byte{1, 3}, []api.Column{{Kind: 3}}, nil, api.ErrForm, 2)
	wantTakeRows(t, []byte{1, 0}, []api.Column{{Kind: api.KNull}}, nil, api.ErrKind, 2)
	wantTakeRows(t, []byte{1, 0}, []api.Column{{Kind: 7, Null: true}}, [][]api.Value{{nothing}}, api.OK, 2)
	wantTakeRows(t, []byte{1, 1, 2}, []api.Column{{Kind: api.KInt, Way: 99}}, [][]api.Value{{number(1)}}, api.OK, 3)
	wide := slices.Repeat([]api.Column{intsNull()}, 300)
	row := slices.Repeat([]api.Value{number(1)}, 300)
	b := value.PutRows(nil, [][]api.Value{row, row})
	wantTakeRows(t, b, wide, [][]api.Value{row, row}, api.OK, len(b))
	wantTakeRows(t, b[:len(b)-1], wide, nil, api.ErrShort, len(b)-1)
}

func TestTakeRowsOfAnyBytes(t *testing.T) {
	allBytes([]byte{0, 1, 2, 3, 4, 127, 128}, 3, func(b []byte) { anyRows(t, b, nil) })
	for _, s := range [][]api.Column{{ints()}, {intsNull()}, {texts()}, {textsNull()}, {ints(), textsNull()}, {textsNull(), intsNull()}} {
		allBytes([]byte{0, 1, 2, 3, 128}, 6, func(b []byte) { anyRows(t, b, s) })
	}
	for _, columns := range []int{1, 2, 5} {
		for _, s := range schemasOf(columns) {
			for _, n := range []int{1, 3} {
				turned(value.PutRows(nil, rowsOf(s, n)), func(b []byte) { anyRows(t, b, s) })
			}
		}
	}
}

// P15.2: a reader that has failed, and none

func TestTakeOfAReaderThatHasFailed(t *testing.T) {
	whole := join([]byte{1, 1, 0, 0}, []byte{2, 1, 'a', 0, 0})
	for _, e := range []api.Errno{api.ErrArg, api.ErrForm, api.ErrLost, api.ErrLimit, 99, -1} {
		for at := range whole {
			r := num.NewReader(whole)
			r.Take(at)
			r.Fail(e)
			for range 2 {
				if v := value.Take(r); v != nothing {
					t.Fatalf("%v taken behind an error", v)
				}
				if s := value.TakeSchema(r); len(s) > 0 {
					t.Fatalf("%v taken behind an error", s)
				}
				for _, s := range [][]api.Column{nil, {ints()}, {textsNull(), intsNull()}} {
					if rows := value.TakeRows(r, s); len(rows) > 0 {
						t.Fatalf("%v taken behind an error", rows)
					}
				}
				wantPlace(t, "a reader that has failed", r, e, at)
			}
		}
	}
}

// Behind an error of one of them none takes anything any more.
func TestTakeBehindAnErrorOfItsOwn(t *testing.T) {
	r := num.NewReader([]byte{1, 2, 3, 1, 0, 0})
	if v := value.Take(r); v != number(1) {
		t.Fatalf("%v", v)
	}
	value.Take(r)
	wantPlace(t, "a Kind that is none", r, api.ErrForm, 3)
	if s := value.TakeSchema(r); len(s) > 0 {
		t.Fatalf("%v", s)
	}
	wantPlace(t, "a Kind that is none", r, api.ErrForm, 3)
	r = num.NewReader([]byte{1, 0, 0, 0, 0, 1, 0})
	value.TakeSchema(r)
	wantPlace(t, "a kind that is none", r, api.ErrKind, 4)
	if rows := value.TakeRows(r, []api.Column{intsNull()}); len(rows) > 0 || value.Take(r) != nothing {
		t.Fatalf("%v", rows)
	}
	wantPlace(t, "a kind that is none", r, api.ErrKind, 4)
	r = num.NewReader([]byte{2, 0, 2, 0, 0})
	value.TakeRows(r, []api.Column{intsNull()})
	wantPlace(t, "a text among numbers", r, api.ErrKind, 4)
	if v := value.Take(r); v != nothing {
		t.Fatalf("%v", v)
	}
	wantPlace(t, "a text among numbers", r, api.ErrKind, 4)
}

func TestTakeOfNoReader(t *testing.T) {
	for range 2 {
		if v := value.Take(nil); v != nothing {
			t.Fatalf("%v", v)
		}
		if s := value.TakeSchema(nil); len(s) > 0 {
			t.Fatalf("%v", s)
		}
		for _, s := range [][]api.Column{nil, {ints()}, {textsNull(), intsNull()}} {
			if rows := value.TakeRows(nil, s); len(rows) > 0 {
				t.Fatalf("%v", rows)
			}
		}
	}
}

// R4 and R7: memory, and one answer

// roomy is b with more behind its length, which is all 0xaa.
func roomy(b []byte) []byte {
	more := bytes.Repeat([]byte{0xaa}, len(b)+100)
	copy(more, b)
	return more[:len(b)]
}

func TestPutSharesNoMemory(t *testing.T) {
	rows := [][]api.Value{{number(1), text("ab")}, {nothing, text("")}}
	for _, put := range []func(b []byte) []byte{
		func(b []byte) []byte { return value.Put(b, nothing) },
		func(b []byte) []byte { return value.Put(b, number(300)) },
		func(b []byte) []byte { return value.Put(b, text("some")) },
		func(b []byte) []byte { return value.Put(b, api.Value{Kind: 9}) },
		func(b []byte) []byte { return value.PutRows(b, nil) },
		func(b []byte) []byte { return value.PutRows(b, rows) },
	} {
		for _, ahead := range [][]byte{{}, {7}, {7, 8, 9}} {
			b := roomy(ahead)
			p, q := put(b), put(b)
			want := slices.Clone(p)
			if behind := b[:cap(b)]; !bytes.Equal(behind[:len(b)], ahead) || slices.ContainsFunc(behind[len(b):], func(c byte) bool { return c != 0xaa }) {
				t.Fatalf("%x: written over", behind)
			}
			for i := range q[:cap(q)] {
				q[:cap(q)][i] = 0x55
			}
			for i := range b[:cap(b)] {
				b[:cap(b)][i] = 0x66
			}
			if !bytes.Equal(p, want) {
				t.Fatalf("%x, not %x: shared", p, want)
			}
			for i := range p {
				p[i] = 0x77
			}
			if slices.Contains(b[:cap(b)], 0x77) {
				t.Fatalf("%x: shared", b)
			}
		}
	}
	if len(rows) != 2 || rows[0][0] != number(1) || rows[0][1] != text("ab") || rows[1][0] != nothing || rows[1][1] != text("") {
		t.Fatalf("%v: changed", rows)
	}
}

func TestPutSchemaSharesNoMemory(t *testing.T) {
	s := []api.Column{ints(), textsNull(), {Kind: 99, Way: -300}}
	kept := slices.Clone(s)
	p, q := value.PutSchema(s[:2]), value.PutSchema(s[:2])
	for i := range q {
		q[i] = 0x55
	}
	if want := []byte{2, 1, 0, 0, 2, 1, 0}; !bytes.Equal(p, want) || !bytes.Equal(value.PutSchema(s[:2]), want) {
		t.Fatalf("%x, not %x", p, want)
	}
	if !slices.Equal(s, kept) {
		t.Fatalf("%v: changed", s)
	}
}

func TestTakeSchemaSharesNoMemory(t *testing.T) {
	b := []byte{2, 1, 0, 0, 2, 1, 0}
	first, second := value.TakeSchema(num.NewReader(b)), value.TakeSchema(num.NewReader(b))
	for i := range first {
		first[i] = api.Column{Kind: 9}
	}
	if !slices.Equal(second, []api.Column{ints(), textsNull()}) || !bytes.Equal(b, []byte{2, 1, 0, 0, 2, 1, 0}) {
		t.Fatalf("%v of %x: shared", second, b)
	}
}

func TestTakeRowsSharesNoMemory(t *testing.T) {
	s := []api.Column{intsNull(), textsNull(), {Kind: 9}}[:2]
	want := [][]api.Value{{number(1), text("ab")}, {nothing, text("")}, {number(2), nothing}}
	b := value.PutRows(nil, want)
	r := num.NewReader(b)
	rows := value.TakeRows(r, s)
	again := value.TakeRows(num.NewReader(b), s)
	for i := range b {
		b[i] = 0x55
	}
	for i := range s {
		s[i] = api.Column{Kind: 9}
	}
	if !sameRows(rows, want) {
		t.Fatalf("%v: shared", rows)
	}
	// No row lies in another one's memory.
	for i := range rows {
		for j := range rows[i] {
			rows[i][j] = text("written over")
		}
		rows[i] = append(rows[i], text("behind"))
		for k := i + 1; k < len(rows); k++ {
			if !slices.Equal(rows[k], want[k]) {
				t.Fatalf("row %d is changed with row %d", k, i)
			}
		}
	}
	if !sameRows(again, want) {
		t.Fatalf("%v: shared", again)
	}
}

func TestWhatIsHandedInStays(t *testing.T) {
	s := []api.Column{ints(), texts(), {Kind: 9}}
	row := []api.Value{number(1), text("a"), {Kind: 9}}
	for range 3 {
		wantSchema(t, s[:2], api.OK)
		wantRow(t, s[:2], row[:2], api.OK)
		wantSchema(t, s, api.ErrKind)
		wantRow(t, s, row, api.ErrKind)
		wantCmp(t, row[0], row[1], -1)
	}
	if !slices.Equal(s, []api.Column{ints(), texts(), {Kind: 9}}) || !slices.Equal(row, []api.Value{number(1), text("a"), {Kind: 9}}) {
		t.Fatalf("%v, %v: changed", s, row)
	}
}
