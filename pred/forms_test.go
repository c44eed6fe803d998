package pred_test

import (
	"bytes"
	"encoding/binary"
	"math"
	"slices"
	"testing"

	"estreat/api"
	"estreat/num"
	"estreat/pred"
)

// P16.2: Put

func TestPut(t *testing.T) {
	wantPut(t, always(), []byte{0, 0, 0, 0})
	wantPut(t, of(api.PEq, 0, number(5)), []byte{1, 0, 1, 1, 10, 0})
	wantPut(t, of(api.PNe, 1, number(-5)), []byte{2, 1, 1, 1, 9, 0})
	wantPut(t, of(api.PLt, 63, number(150)), []byte{3, 63, 1, 1, 0xac, 2, 0})
	wantPut(t, of(api.PLe, 2, text("")), []byte{4, 2, 1, 2, 0, 0})
	wantPut(t, of(api.PGt, 2, text("ab")), []byte{5, 2, 1, 2, 2, 'a', 'b', 0})
	wantPut(t, of(api.PGe, 2, number(math.MinInt64)), []byte{6, 2, 1, 1, 255, 255, 255, 255, 255, 255, 255, 255, 255, 1, 0})
	wantPut(t, of(api.PIn, 3), []byte{7, 3, 0, 0})
	wantPut(t, of(api.PIn, 3, number(0), number(1)), []byte{7, 3, 2, 1, 0, 1, 2, 0})
	wantPut(t, of(api.PBetween, 1, text("a"), text("b")), []byte{8, 1, 2, 2, 1, 'a', 2, 1, 'b', 0})
	wantPut(t, of(api.PNull, 1), []byte{9, 1, 0, 0})
	wantPut(t, and(always()), []byte{10, 0, 0, 1, 0, 0, 0, 0})
	wantPut(t, or(of(api.PNull, 1), always()), []byte{11, 0, 0, 2, 9, 1, 0, 0, 0, 0, 0, 0})
	wantPut(t, not(always()), []byte{12, 0, 0, 1, 0, 0, 0, 0})
	// Each part ahead of the next one with all parts of its own.
	wantPut(t, and(or(of(api.PNull, 1), not(of(api.PNull, 2))), of(api.PNull, 3), not(of(api.PNull, 4))),
		[]byte{10, 0, 0, 3, 11, 0, 0, 2, 9, 1, 0, 0, 12, 0, 0, 1, 9, 2, 0, 0, 9, 3, 0, 0, 12, 0, 0, 1, 9, 4, 0, 0})
	wantPut(t, api.Pred{Vals: []api.Value{}, Of: []api.Pred{}}, []byte{0, 0, 0, 0})
}

func TestPutOfHowMany(t *testing.T) {
	for _, n := range []int{0, 1, 2, 127, 128, 255, 256, 257, 16383, 16384, 70000} {
		count := binary.AppendUvarint(nil, uint64(n))
		wantPut(t, of(api.PIn, 1, slices.Repeat([]api.Value{number(3)}, n)...), join([]byte{7, 1}, count, bytes.Repeat([]byte{1, 6}, n), []byte{0}))
		wantPut(t, and(slices.Repeat([]api.Pred{of(api.PNull, 2)}, n)...), join([]byte{10, 0, 0}, count, bytes.Repeat([]byte{9, 2, 0, 0}, n)))
	}
	wantPut(t, of(api.PEq, 0, text(long(api.MaxText))), join([]byte{1, 0, 1, 2, 0x80, 0x80, 4}, []byte(long(api.MaxText)), []byte{0}))
	wantPut(t, of(api.PEq, 0, tooLong()), join([]byte{1, 0, 1, 2, 0x81, 0x80, 4}, []byte(tooLong().S), []byte{0}))
	for n := range 70 {
		wantPut(t, nested(always(), n), join(formOf(nested(always(), n))[:4*n], []byte{0, 0, 0, 0}))
	}
}

// An operator that goes into no byte is put by its lowest eight bits.
func TestPutOfNoOperator(t *testing.T) {
	for _, x := range []struct {
		op int
		b  byte
	}{
		{13, 13}, {127, 127}, {128, 128}, {255, 255}, {256, 0}, {257, 1}, {268, 12}, {269, 13}, {512, 0}, {-1, 255}, {-2, 254}, {-244, 12}, {-255, 1}, {-256, 0}, {-257, 255},
		{math.MaxInt, 255}, {math.MaxInt - 1, 254}, {math.MinInt, 0}, {math.MinInt + 1, 1}, {1 << 32, 0}, {1<<32 + 1, 1}, {-1 << 32, 0},
	} {
		wantPut(t, of(x.op, 0), []byte{x.b, 0, 0, 0})
		wantPut(t, of(x.op, 7, number(1)), []byte{x.b, 7, 1, 1, 2, 0})
		wantPut(t, joined(x.op, of(x.op, 2), always()), []byte{x.b, 0, 0, 2, x.b, 2, 0, 0, 0, 0, 0, 0})
	}
	for _, op := range none() {
		wantPut(t, of(op, 0), []byte{byte(op & 255), 0, 0, 0})
	}
}

// A column below 0 is put as the number from 0 on that is it modulo 2^64.
func TestPutOfAnyColumn(t *testing.T) {
	full := bytes.Repeat([]byte{255}, 8)
	for _, x := range []struct {
		col int
		b   []byte
	}{
		{127, []byte{127}}, {128, []byte{128, 1}}, {300, []byte{0xac, 2}}, {math.MaxInt, join(full, []byte{127})}, {math.MaxInt - 1, join([]byte{254}, full[1:], []byte{127})},
		{-1, join(full, []byte{255, 1})}, {-2, join([]byte{254}, full[1:], []byte{255, 1})}, {-128, join([]byte{128}, full, []byte{1})},
		{math.MinInt, join(bytes.Repeat([]byte{128}, 9), []byte{1})}, {math.MinInt + 1, join([]byte{129}, bytes.Repeat([]byte{128}, 8), []byte{1})},
	} {
		wantPut(t, of(api.PNull, x.col), join([]byte{9}, x.b, []byte{0, 0}))
		wantPut(t, not(of(api.PEq, x.col, number(1))), join([]byte{12, 0, 0, 1, 1}, x.b, []byte{1, 1, 2, 0}))
		wantPut(t, of(api.PTrue, x.col), join([]byte{0}, x.b, []byte{0, 0}))
	}
}

// What isn't right otherwise is put as it is.
func TestPutOfWhatIsntRight(t *testing.T) {
	wantPut(t, api.Pred{Col: 3, Vals: []api.Value{number(1)}, Of: []api.Pred{always()}}, []byte{0, 3, 1, 1, 2, 1, 0, 0, 0, 0})
	wantPut(t, api.Pred{Op: api.PAnd, Col: 3, Vals: []api.Value{nothing}}, []byte{10, 3, 1, 0, 0})
	wantPut(t, joined(api.PNot, always(), of(api.PNull, 1)), []byte{12, 0, 0, 2, 0, 0, 0, 0, 9, 1, 0, 0})
	wantPut(t, of(api.PEq, 0), []byte{1, 0, 0, 0})
	wantPut(t, of(api.PEq, 0, number(1), text("a"), nothing), []byte{1, 0, 3, 1, 2, 2, 1, 'a', 0, 0})
	wantPut(t, of(api.PEq, 0, api.Value{Kind: 3, N: 5, S: "a"}, api.Value{Kind: 257, N: 5}, api.Value{Kind: -1}), []byte{1, 0, 3, 3, 1, 255, 0})
	wantPut(t, of(api.PEq, 0, api.Value{N: 5, S: "a"}, api.Value{Kind: 1, N: 5, S: "a"}, api.Value{Kind: 2, N: 5, S: "a"}), []byte{1, 0, 3, 0, 1, 10, 2, 1, 'a', 0})
}

func TestPutOfAny(t *testing.T) {
	var h hat
	for i := range 20000 {
		p := h.pred(1+i%4, i%2 == 0)
		wantPut(t, p, formOf(p))
	}
}

// P16.2 and P16.3: Take of what is put, whatever comes behind it.

func taken(t *testing.T, p api.Pred) {
	t.Helper()
	b := pred.Put(p)
	wantTake(t, b, p, api.OK, len(b))
	wantTake(t, join(b, []byte{0}), p, api.OK, len(b))
	wantTake(t, join(b, []byte{255, 255, 1}), p, api.OK, len(b))
	wantTake(t, join(b, b), p, api.OK, len(b))
}

func TestTake(t *testing.T) {
	for _, p := range right() {
		taken(t, p)
		taken(t, nested(p, 25))
	}
	for _, n := range []int{0, 1, 2, 127, 128, 255, 256} {
		taken(t, of(api.PIn, 1, slices.Repeat([]api.Value{number(3)}, n)...))
		taken(t, of(api.PIn, 1, slices.Repeat([]api.Value{text("ab")}, n)...))
		taken(t, and(slices.Repeat([]api.Pred{of(api.PEq, 2, number(1))}, n)...))
		taken(t, or(append(slices.Repeat([]api.Pred{not(always())}, n/2), of(api.PIn, 1, text("b")))...))
	}
	taken(t, of(api.PBetween, 1, text(long(api.MaxText)), text(long(api.MaxText-1))))
	taken(t, of(api.PBetween, 1, number(math.MinInt64), number(math.MaxInt64)))
	for n := range 32 {
		taken(t, nested(always(), n))
		taken(t, nested(of(api.PIn, 3, text("a"), text("")), n))
	}
	// One behind the other.
	var all []byte
	for _, p := range right() {
		all = append(all, pred.Put(p)...)
	}
	r := num.NewReader(all)
	for _, p := range right() {
		if q := pred.Take(r); !samePred(p, q) {
			t.Fatalf("%s, not %s", shown(q), shown(p))
		}
	}
	if e, at := r.End(); e != api.OK || at != 0 {
		t.Fatalf("error %d at %d behind all", e, at)
	}
}

// Take doesn't ask whether what it takes is right, but for what P16.2 names.
func TestTakeOfWhatIsntRight(t *testing.T) {
	for _, col := range append(farColumns(), 4, 127, 128) {
		taken(t, of(api.PNull, col))
		taken(t, of(api.PTrue, col))
		taken(t, not(of(api.PEq, col, number(1), text("a"), nothing)))
	}
	for op := range api.PNot + 1 {
		taken(t, of(op, 3))
		taken(t, of(op, 0, number(1), nothing, text("a")))
		taken(t, joined(op, always(), of(op, 2, number(1))))
		taken(t, api.Pred{Op: op, Col: 9, Vals: slices.Repeat([]api.Value{nothing}, 256), Of: slices.Repeat([]api.Pred{always()}, 256)})
	}
}

func TestTakeThatEndsEarly(t *testing.T) {
	wantRefused(t, nil, api.ErrShort, 0)
	wantRefused(t, []byte{0}, api.ErrShort, 1)
	wantRefused(t, []byte{0, 0}, api.ErrShort, 2)
	wantRefused(t, []byte{0, 0x80}, api.ErrShort, 1)
	wantRefused(t, []byte{0, 0, 0}, api.ErrShort, 3)
	wantRefused(t, []byte{7, 0x80, 1, 0x80}, api.ErrShort, 3)
	wantRefused(t, []byte{7, 0, 0, 0x80}, api.ErrShort, 3)
	wantRefused(t, []byte{7, 0, 1}, api.ErrShort, 3)
	wantRefused(t, []byte{7, 0, 1, 1}, api.ErrShort, 4)
	wantRefused(t, []byte{7, 0, 1, 1, 0x80}, api.ErrShort, 4)
	wantRefused(t, []byte{7, 0, 2, 1, 2}, api.ErrShort, 5)
	wantRefused(t, []byte{7, 0, 1, 2}, api.ErrShort, 4)
	wantRefused(t, []byte{7, 0, 1, 2, 1}, api.ErrShort, 4)
	wantRefused(t, []byte{7, 0, 1, 2, 3, 'a', 'b'}, api.ErrShort, 4)
	wantRefused(t, []byte{7, 0, 1, 1, 2}, api.ErrShort, 5)
	wantRefused(t, []byte{12, 0, 0, 1}, api.ErrShort, 4)
	wantRefused(t, []byte{12, 0, 0, 1, 12, 0, 0, 1}, api.ErrShort, 8)
	wantRefused(t, []byte{10, 0, 0, 2, 0, 0, 0, 0}, api.ErrShort, 8)
	wantRefused(t, []byte{10, 0, 0, 2, 0, 0, 0, 0, 0, 0, 0}, api.ErrShort, 11)
	wantRefused(t, []byte{10, 0, 0x80}, api.ErrShort, 2)
	// Cut at each place, each part is refused where it ends early.
	for _, p := range append(right(), nested(of(api.PEq, 300, text(long(200))), 31)) {
		b := pred.Put(p)
		for i := range b {
			r := num.NewReader(b[:i])
			if q := pred.Take(r); !samePred(q, api.Pred{}) {
				t.Fatalf("%x: %s", b[:i], shown(q))
			}
			if e, _ := r.Err(); e != api.ErrShort {
				t.Fatalf("%x: %d", b[:i], e)
			}
			wantAny(t, b[:i])
		}
	}
}

// inEach looks whether what is refused so is refused by itself, and as a part of others,
// whatever comes behind it.
func inEach(t *testing.T, b []byte, e api.Errno, at int) {
	t.Helper()
	for _, heads := range [][]byte{nil, {12, 0, 0, 1}, {10, 0, 0, 3}, {11, 0, 0, 3, 0, 0, 0, 0}, {7, 1, 1, 2, 1, 'a', 2, 9, 5, 0, 0}, bytes.Repeat([]byte{12, 0, 0, 1}, 31)} {
		wantRefused(t, join(heads, b), e, len(heads)+at)
		if e != api.ErrShort {
			wantRefused(t, join(heads, b, []byte{0, 0, 0, 0}), e, len(heads)+at)
			wantRefused(t, join(heads, b, []byte{99, 255, 255}), e, len(heads)+at)
		}
	}
}

func TestTakeOfANumberThatCantBe(t *testing.T) {
	for _, wrong := range [][]byte{
		{0x80, 0}, {0x81, 0}, {0x85, 0x80, 0}, {255, 255, 255, 255, 255, 255, 255, 255, 255, 2}, {128, 128, 128, 128, 128, 128, 128, 128, 128, 3},
		{128, 128, 128, 128, 128, 128, 128, 128, 128, 128, 1}, {129, 128, 128, 128, 128, 128, 128, 128, 128, 129, 1}, bytes.Repeat([]byte{255}, 20),
	} {
		inEach(t, join([]byte{9}, wrong), api.ErrForm, 1)
		inEach(t, join([]byte{9, 0}, wrong), api.ErrForm, 2)
		inEach(t, join([]byte{9, 0xac, 2, 0}, wrong), api.ErrForm, 4)
		inEach(t, join([]byte{1, 0, 1, 1}, wrong), api.ErrForm, 4)
		inEach(t, join([]byte{1, 0, 1, 2}, wrong), api.ErrForm, 4)
		inEach(t, join([]byte{7, 0, 2, 1, 0, 2}, wrong), api.ErrForm, 6)
		inEach(t, join([]byte{7, 0, 2, 1, 0, 0}, wrong), api.ErrForm, 6)
	}
}

func TestTakeOfNoOperator(t *testing.T) {
	for op := 13; op < 256; op++ {
		inEach(t, []byte{byte(op)}, api.ErrForm, 1)
		inEach(t, []byte{byte(op), 0, 0, 0}, api.ErrForm, 1)
		inEach(t, []byte{byte(op), 0x80, 0}, api.ErrForm, 1)
		inEach(t, []byte{byte(op), 0, 255, 255, 1}, api.ErrForm, 1)
		wantRefused(t, []byte{10, 0, 0, 2, byte(op)}, api.ErrForm, 5)
		wantRefused(t, []byte{10, 0, 0, 2, 0, 0, 0, 0, byte(op)}, api.ErrForm, 9)
	}
}

func TestTakeOfMoreThan256(t *testing.T) {
	for _, n := range []uint64{257, 258, 259, 300, 511, 512, 513, 1 << 14, 1 << 16, 1<<16 + 1, 1 << 31, 1<<31 + 1, 1 << 32, 1<<32 + 1, 1<<32 + 256, 1 << 62, 1<<63 - 1, 1 << 63, 1<<63 + 1, math.MaxUint64 - 1, math.MaxUint64} {
		count := binary.AppendUvarint(nil, n)
		for op := range byte(api.PNot + 1) {
			inEach(t, join([]byte{op, 0}, count), api.ErrLimit, 2+len(count))
			inEach(t, join([]byte{op, 0, 0}, count), api.ErrLimit, 3+len(count))
			inEach(t, join([]byte{op, 0xac, 2, 1, 1, 0}, count), api.ErrLimit, 6+len(count))
		}
	}
	inEach(t, pred.Put(of(api.PIn, 0, slices.Repeat([]api.Value{number(1)}, 257)...)), api.ErrLimit, 4)
	inEach(t, pred.Put(and(slices.Repeat([]api.Pred{always()}, 257)...)), api.ErrLimit, 5)
	// 256 values that end early, or of which the last one can't be.
	b := join([]byte{7, 0, 128, 2}, bytes.Repeat([]byte{1, 2}, 255))
	inEach(t, b, api.ErrShort, 514)
	inEach(t, join(b, []byte{3}), api.ErrForm, 515)
	b = join([]byte{10, 0, 0, 128, 2}, bytes.Repeat([]byte{0, 0, 0, 0}, 255))
	wantRefused(t, b, api.ErrShort, 5+4*255)
	wantRefused(t, join(b, []byte{13}), api.ErrForm, 5+4*255+1)
	// Values are told ahead of parts.
	inEach(t, []byte{10, 0, 129, 2, 129, 2}, api.ErrLimit, 4)
	inEach(t, []byte{10, 0, 1, 3, 129, 2}, api.ErrForm, 4)
}

func TestTakeOfAKindThatIsNone(t *testing.T) {
	for kind := 3; kind < 256; kind++ {
		inEach(t, []byte{1, 0, 1, byte(kind)}, api.ErrForm, 4)
		inEach(t, []byte{0, 0, 1, byte(kind), 0}, api.ErrForm, 4)
		inEach(t, []byte{7, 0, 3, 1, 2, byte(kind)}, api.ErrForm, 6)
		inEach(t, []byte{7, 0, 3, 1, 2, 0, byte(kind)}, api.ErrForm, 7)
		inEach(t, []byte{10, 0, 1, byte(kind), 1, 13}, api.ErrForm, 4)
	}
}

func TestTakeOfALongText(t *testing.T) {
	for _, n := range []uint64{api.MaxText + 1, api.MaxText + 2, 2 * api.MaxText, 1 << 31, 1 << 32, 1<<32 + 1, 1 << 62, 1<<63 - 1, 1 << 63, math.MaxUint64} {
		length := binary.AppendUvarint(nil, n)
		inEach(t, join([]byte{1, 0, 1, 2}, length), api.ErrLimit, 4)
		inEach(t, join([]byte{7, 0, 2, 1, 6, 2}, length, []byte("abc")), api.ErrLimit, 6)
	}
	inEach(t, pred.Put(of(api.PEq, 0, tooLong())), api.ErrLimit, 4)
	inEach(t, pred.Put(of(api.PIn, 300, text("a"), tooLong(), text("b"))), api.ErrLimit, 8)
	wantRefused(t, []byte{1, 0, 1, 2, 0x80, 0x80, 4, 'a'}, api.ErrShort, 4)
	b := pred.Put(of(api.PEq, 0, text(long(api.MaxText))))
	wantRefused(t, b[:len(b)-2], api.ErrShort, 4)
	wantRefused(t, b[:len(b)-1], api.ErrShort, len(b)-1)
}

// A predicate that is nested in 32 others is told where it begins, behind how many parts
// the one around it has, whatever it is.
func TestTakeOfHowDeep(t *testing.T) {
	heads := bytes.Repeat([]byte{12, 0, 0, 1}, 32)
	for _, b := range [][]byte{nil, {0}, {0, 0, 0, 0}, {13}, {255, 255}, {1, 0x80, 0}, {7, 0, 129, 2}, {12, 0, 0, 1}, heads} {
		wantRefused(t, join(heads, b), api.ErrDeep, 128)
		for _, op := range []byte{0, 1, 7, 9, 10, 11} {
			wantRefused(t, join(heads[:124], []byte{op, 0xac, 2, 1, 1, 2, 2}, b), api.ErrDeep, 131)
		}
		// What is ahead of it is told ahead of it.
		wantRefused(t, join(heads[:124], []byte{10, 0, 0, 129, 2}, b), api.ErrLimit, 129)
		wantRefused(t, join(heads[:124], []byte{10, 0, 1, 3, 1}, b), api.ErrForm, 128)
		wantRefused(t, join(heads[:124], []byte{13, 0, 0, 1}, b), api.ErrForm, 125)
		wantRefused(t, join(heads[:124], []byte{12, 0, 0, 0x80, 0}, b), api.ErrForm, 127)
		wantRefused(t, join([]byte{10, 0, 0, 2, 0, 0, 0, 0}, heads, b), api.ErrDeep, 8+124)
		wantRefused(t, join([]byte{10, 0, 0, 2, 13, 0, 0, 0}, heads, b), api.ErrForm, 5)
	}
	wantTake(t, join(heads[:124], []byte{0, 0, 0, 0}), chain(31), api.OK, 128)
	wantTake(t, join(heads[:124], []byte{12, 0, 0, 0, 1}), func() api.Pred {
		p := joined(api.PNot)
		for range 31 {
			p = not(p)
		}
		return p
	}(), api.OK, 128)
	for n := 32; n < 70; n++ {
		b := pred.Put(nested(of(api.PEq, 0, number(1)), n))
		wantRefused(t, b, api.ErrDeep, 128)
	}
	wantRefused(t, bytes.Repeat([]byte{12, 0, 0, 1}, 100000), api.ErrDeep, 128)
	wantRefused(t, bytes.Repeat([]byte{10, 0, 0, 128, 2}, 31), api.ErrShort, 155)
	wantRefused(t, bytes.Repeat([]byte{10, 0, 0, 128, 2}, 32), api.ErrDeep, 160)
}

// chain is a predicate that is true in so many PNots.
func chain(n int) api.Pred {
	p := always()
	for range n {
		p = not(p)
	}
	return p
}

// turned tells b cut at each place, with each byte turned into some others, and with more
// behind it.
func turned(b []byte, tell func(b []byte)) {
	for i := range b {
		tell(b[:i])
		for _, c := range []byte{0, 1, 2, 3, 7, 9, 10, 11, 12, 13, 127, 128, 129, 254, 255, b[i] + 1, b[i] - 1} {
			x := slices.Clone(b)
			x[i] = c
			tell(x)
		}
		tell(slices.Delete(slices.Clone(b), i, i+1))
		tell(slices.Insert(slices.Clone(b), i, b[i]))
	}
	tell(join(b, b))
}

func TestTakeOfAnyBytes(t *testing.T) {
	var grow func(b []byte)
	grow = func(b []byte) {
		wantAny(t, b)
		if len(b) == 6 {
			return
		}
		for _, c := range []byte{0, 1, 2, 12, 128} {
			grow(append(b[:len(b):len(b)], c))
		}
	}
	grow(nil)
	for i := range 256 {
		for j := range 256 {
			wantAny(t, []byte{byte(i), byte(j), 1, 2, 0, 0})
			wantAny(t, []byte{7, 1, byte(i), byte(j), 1, 2, 0, 0})
			wantAny(t, []byte{10, 1, 0, byte(i), byte(j), 0, 0, 0, 0})
		}
	}
	var h hat
	for i := range 600 {
		turned(pred.Put(h.pred(1+i%3, false)), func(b []byte) { wantAny(t, b) })
	}
	turned(pred.Put(nested(of(api.PIn, 1, text("abc"), text("")), 31)), func(b []byte) { wantAny(t, b) })
	for i := range 20000 {
		var b []byte
		for j := range 40 {
			b = append(b, []byte{0, 1, 2, 3, 1, 0, 10, byte(h.below(14)), byte(h.below(256))}[(i*j+h.below(9))%9])
		}
		wantAny(t, b)
	}
}

// P16.2: a reader that has failed, and none

func TestTakeOfAReaderThatHasFailed(t *testing.T) {
	b := pred.Put(and(of(api.PEq, 0, number(1)), always()))
	for _, e := range []api.Errno{api.ErrArg, api.ErrForm, api.ErrLost, api.ErrLimit, 99, -1} {
		for at := range len(b) + 1 {
			r := num.NewReader(b)
			r.Take(at)
			r.Fail(e)
			for range 2 {
				if p := pred.Take(r); !samePred(p, api.Pred{}) {
					t.Fatalf("%s taken behind an error", shown(p))
				}
				wantPlace(t, b, r, e, at)
			}
		}
	}
	// Behind an error of its own it takes nothing any more.
	r := num.NewReader([]byte{13, 0, 0, 0, 0, 0, 0, 0, 0})
	for range 3 {
		if p := pred.Take(r); !samePred(p, api.Pred{}) {
			t.Fatalf("%s", shown(p))
		}
		wantPlace(t, nil, r, api.ErrForm, 1)
	}
}

func TestTakeOfNoReader(t *testing.T) {
	for range 2 {
		if p := pred.Take(nil); !samePred(p, api.Pred{}) {
			t.Fatalf("%s", shown(p))
		}
	}
}
