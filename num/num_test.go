package num_test

import (
	"bytes"
	"encoding/binary"
	"math"
	"testing"

	"estreat/api"
	"estreat/num"
)

// numbers has each power of two, and what is one below and above it.
func numbers() []uint64 {
	l := []uint64{0, 300, math.MaxUint64}
	for i := range 64 {
		p := uint64(1) << i
		l = append(l, p-1, p, p+1)
	}
	return l
}

func wantErr(t *testing.T, what string, r *num.Reader, e api.Errno, at int) {
	t.Helper()
	if ge, gat := r.Err(); ge != e || gat != at {
		t.Fatalf("%s: error %d at %d, not %d at %d", what, ge, gat, e, at)
	}
}

// wantStopped looks whether nothing is taken any more and the error stays.
func wantStopped(t *testing.T, what string, r *num.Reader, e api.Errno, at int) {
	t.Helper()
	here, left := r.At(), r.Left()
	wantErr(t, what, r, e, at)
	if v := r.Var(); v != 0 {
		t.Fatalf("%s: Var took %d behind an error", what, v)
	}
	if v := r.Fix(1); v != 0 {
		t.Fatalf("%s: Fix took %d behind an error", what, v)
	}
	if p := r.Blob(math.MaxInt); len(p) != 0 {
		t.Fatalf("%s: Blob took %x behind an error", what, p)
	}
	if p := r.Take(1); len(p) != 0 {
		t.Fatalf("%s: Take took %x behind an error", what, p)
	}
	r.Fix(-1)
	r.Take(-1)
	r.Fail(api.ErrLost)
	wantErr(t, what, r, e, at)
	if ge, gat := r.End(); ge != e || gat != at {
		t.Fatalf("%s: End told %d at %d", what, ge, gat)
	}
	if r.At() != here || r.Left() != left {
		t.Fatalf("%s: the reader went on behind an error", what)
	}
}

// P1.1

func TestPutVar(t *testing.T) {
	for _, x := range []struct {
		v uint64
		b []byte
	}{
		{0, []byte{0}}, {1, []byte{1}}, {0x7f, []byte{0x7f}}, {0x80, []byte{0x80, 1}}, {300, []byte{0xac, 2}},
		{1<<14 - 1, []byte{0xff, 0x7f}}, {1 << 14, []byte{0x80, 0x80, 1}},
		{1 << 63, []byte{0x80, 0x80, 0x80, 0x80, 0x80, 0x80, 0x80, 0x80, 0x80, 1}},
		{math.MaxUint64, []byte{255, 255, 255, 255, 255, 255, 255, 255, 255, 1}},
	} {
		if b := num.PutVar(nil, x.v); !bytes.Equal(b, x.b) {
			t.Fatalf("%d: %x, not %x", x.v, b, x.b)
		}
	}
	for _, v := range numbers() {
		want := append([]byte{7, 8}, binary.AppendUvarint(nil, v)...)
		if b := num.PutVar([]byte{7, 8}, v); !bytes.Equal(b, want) {
			t.Fatalf("%d: %x, not %x", v, b, want)
		}
	}
}

func TestPutFix(t *testing.T) {
	whole := []byte{8, 7, 6, 5, 4, 3, 2, 1}
	for size := range 9 {
		want := append([]byte{99}, whole[:size]...)
		if b := num.PutFix([]byte{99}, 0x0102030405060708, size); !bytes.Equal(b, want) {
			t.Fatalf("size %d: %x, not %x", size, b, want)
		}
	}
	for _, size := range []int{-1, -8, math.MinInt} {
		if b := num.PutFix([]byte{99}, 5, size); !bytes.Equal(b, []byte{99}) {
			t.Fatalf("size %d: %x", size, b)
		}
	}
	for _, size := range []int{9, 16, 1 << 40, math.MaxInt} {
		if b := num.PutFix(nil, 0x0102030405060708, size); !bytes.Equal(b, whole) {
			t.Fatalf("size %d: %x", size, b)
		}
	}
}

func TestPutBlob(t *testing.T) {
	for _, n := range []int{0, 1, 127, 128, 300, 1 << 14, 1 << 16} {
		p := bytes.Repeat([]byte{0xab}, n)
		want := append(binary.AppendUvarint([]byte{1, 2}, uint64(n)), p...)
		if b := num.PutBlob([]byte{1, 2}, p); !bytes.Equal(b, want) {
			t.Fatalf("%d bytes: another form", n)
		}
	}
	if b := num.PutBlob(nil, nil); !bytes.Equal(b, []byte{0}) {
		t.Fatalf("no bytes: %x", b)
	}
}

func TestZig(t *testing.T) {
	for _, x := range []struct {
		n int64
		v uint64
	}{
		{0, 0}, {-1, 1}, {1, 2}, {-2, 3}, {2, 4}, {-150, 299}, {150, 300},
		{math.MaxInt64, math.MaxUint64 - 1}, {math.MinInt64, math.MaxUint64}, {math.MinInt64 + 1, math.MaxUint64 - 2},
	} {
		if v := num.Zig(x.n); v != x.v {
			t.Fatalf("Zig(%d): %d, not %d", x.n, v, x.v)
		}
		if n := num.Zag(x.v); n != x.n {
			t.Fatalf("Zag(%d): %d, not %d", x.v, n, x.n)
		}
	}
	for _, v := range numbers() {
		if num.Zig(num.Zag(v)) != v || num.Zag(num.Zig(int64(v))) != int64(v) {
			t.Fatalf("%d doesn't come back", v)
		}
	}
}

// P1.2

// nines is nine bytes that a tenth one may stand behind.
func nines(c byte, tail ...byte) []byte {
	return append(bytes.Repeat([]byte{c}, 9), tail...)
}

func TestVar(t *testing.T) {
	for _, x := range []struct {
		b []byte
		v uint64
		n int
		e api.Errno
	}{
		{nil, 0, 0, api.ErrShort},
		{[]byte{0}, 0, 1, api.OK},
		{[]byte{0, 5}, 0, 1, api.OK},
		{[]byte{0xac, 2}, 300, 2, api.OK},
		{[]byte{0x80}, 0, 0, api.ErrShort},
		{[]byte{0x80, 0x80}, 0, 0, api.ErrShort},
		{[]byte{0x80, 0}, 0, 0, api.ErrForm},
		{[]byte{0xff, 0xff, 0}, 0, 0, api.ErrForm},
		{nines(0xff), 0, 0, api.ErrShort},
		{nines(0xff, 0), 0, 0, api.ErrForm},
		{nines(0xff, 1), math.MaxUint64, 10, api.OK},
		{nines(0x80, 1), 1 << 63, 10, api.OK},
		{nines(0x80, 1, 0), 1 << 63, 10, api.OK},
		{nines(0xff, 2), 0, 0, api.ErrForm},
		{nines(0x80, 0x7f), 0, 0, api.ErrForm},
		{nines(0x80, 0x80), 0, 0, api.ErrShort},
		{nines(0x80, 0x81), 0, 0, api.ErrShort},
		{nines(0x80, 0x82), 0, 0, api.ErrForm},
		{nines(0x80, 0xff), 0, 0, api.ErrForm},
		{nines(0x80, 0x80, 0), 0, 0, api.ErrForm},
		{nines(0x80, 0x81, 1), 0, 0, api.ErrForm},
		{nines(0x80, 0x80, 0x80), 0, 0, api.ErrForm},
	} {
		for _, ahead := range []int{0, 3} {
			r := num.NewReader(append(make([]byte, ahead), x.b...))
			r.Take(ahead)
			v := r.Var()
			if v != x.v || r.At() != ahead+x.n || r.Left() != len(x.b)-x.n {
				t.Fatalf("%x: %d, and stands at %d", x.b, v, r.At()-ahead)
			}
			if x.e != api.OK {
				wantStopped(t, "Var", r, x.e, ahead)
			} else {
				wantErr(t, "Var", r, api.OK, 0)
			}
		}
	}
}

// varOf is the short number of b by the words of the document: the first byte
// that can't be, or the byte that ends it, whichever comes first.
func varOf(b []byte) (uint64, int, api.Errno) {
	for i, c := range b {
		if i > 0 && c == 0 || i == 9 && c%128 > 1 || i == 10 {
			return 0, 0, api.ErrForm
		}
		if c < 128 {
			v, n := binary.Uvarint(b[:i+1])
			return v, n, api.OK
		}
	}
	return 0, 0, api.ErrShort
}

func TestVarOfAnyBytes(t *testing.T) {
	some := []byte{0, 1, 2, 0x7f, 0x80, 0x81, 0x82, 0xff}
	for ahead := range 10 {
		for k := range 8 * 8 * 8 {
			for n := range 4 {
				b := bytes.Repeat([]byte{0x80}, ahead)
				b = append(b, []byte{some[k%8], some[k/8%8], some[k/64]}[:n]...)
				want, wn, we := varOf(b)
				r := num.NewReader(b)
				v := r.Var()
				if e, at := r.Err(); v != want || e != we || at != 0 || r.At() != wn {
					t.Fatalf("%x: %d, error %d at %d", b, v, e, at)
				}
				if back := num.PutVar(nil, v); we == api.OK && !bytes.Equal(back, b[:wn]) {
					t.Fatalf("%x is put as %x", b, back)
				}
			}
		}
	}
}

func TestFix(t *testing.T) {
	b := []byte{1, 2, 3, 4, 5, 6, 7, 0xf8, 9}
	want := uint64(0)
	for size := range 9 {
		if size > 0 {
			want |= uint64(b[size-1]) << (8 * (size - 1))
		}
		r := num.NewReader(b)
		if v := r.Fix(size); v != want || r.At() != size {
			t.Fatalf("size %d: %x, not %x", size, v, want)
		}
		wantErr(t, "Fix", r, api.OK, 0)
		r = num.NewReader(b[:size])
		r.Take(1)
		if v := r.Fix(size); size > 0 {
			if v != 0 || r.At() != 1 {
				t.Fatalf("size %d: %x of too few bytes", size, v)
			}
			wantStopped(t, "Fix", r, api.ErrShort, 1)
		}
	}
	for _, size := range []int{-1, 9, math.MinInt, math.MaxInt} {
		for _, l := range [][]byte{nil, b} {
			r := num.NewReader(l)
			if v := r.Fix(size); v != 0 {
				t.Fatalf("size %d: %x", size, v)
			}
			wantStopped(t, "Fix", r, api.ErrArg, 0)
		}
	}
}

func TestTake(t *testing.T) {
	r := num.NewReader([]byte{1, 2, 3, 4})
	for _, want := range [][]byte{{1}, {}, {2, 3}, {}} {
		if p := r.Take(len(want)); !bytes.Equal(p, want) {
			t.Fatalf("%x, not %x", p, want)
		}
	}
	wantErr(t, "Take", r, api.OK, 0)
	if p := r.Take(2); len(p) != 0 {
		t.Fatalf("%x of too few bytes", p)
	}
	wantStopped(t, "Take", r, api.ErrShort, 3)
	for n, e := range map[int]api.Errno{-1: api.ErrArg, math.MinInt: api.ErrArg, 5: api.ErrShort, math.MaxInt: api.ErrShort} {
		r := num.NewReader([]byte{1, 2, 3, 4})
		if p := r.Take(n); len(p) != 0 {
			t.Fatalf("Take(%d): %x", n, p)
		}
		wantStopped(t, "Take", r, e, 0)
	}
	r = num.NewReader(nil)
	if r.Take(0); r.At() != 0 {
		t.Fatal("nothing of no bytes")
	}
	wantErr(t, "Take", r, api.OK, 0)
}

func TestBlob(t *testing.T) {
	huge := num.PutVar(nil, math.MaxUint64)
	for _, x := range []struct {
		b    []byte
		most int
		n    int // bytes taken with the length ahead of them
		e    api.Errno
	}{
		{[]byte{0}, 0, 1, api.OK},
		{[]byte{2, 9, 8}, 2, 3, api.OK},
		{[]byte{2, 9, 8, 7}, 3, 3, api.OK},
		{[]byte{2, 9, 8}, math.MaxInt, 3, api.OK},
		{[]byte{2, 9, 8}, 1, 0, api.ErrLimit},
		{[]byte{2}, 1, 0, api.ErrLimit},
		{[]byte{0}, -1, 0, api.ErrLimit},
		{[]byte{1, 5}, math.MinInt, 0, api.ErrLimit},
		{[]byte{2, 9}, 2, 0, api.ErrShort},
		{[]byte{2}, 2, 0, api.ErrShort},
		{nil, 2, 0, api.ErrShort},
		{nil, -1, 0, api.ErrShort},
		{[]byte{0x80}, 2, 0, api.ErrShort},
		{[]byte{0x82, 0, 1, 1}, 2, 0, api.ErrForm},
		{[]byte{0x82, 0, 1, 1}, -1, 0, api.ErrForm},
		{huge, math.MaxInt, 0, api.ErrLimit},
		{num.PutVar(nil, math.MaxInt64), math.MaxInt, 0, api.ErrShort},
	} {
		for _, ahead := range []int{0, 2} {
			r := num.NewReader(append(make([]byte, ahead), x.b...))
			r.Take(ahead)
			p := r.Blob(x.most)
			if r.At() != ahead+x.n {
				t.Fatalf("%x, %d: stands at %d", x.b, x.most, r.At()-ahead)
			}
			if x.e != api.OK {
				if len(p) != 0 {
					t.Fatalf("%x, %d: %x beside an error", x.b, x.most, p)
				}
				wantStopped(t, "Blob", r, x.e, ahead)
				continue
			}
			wantErr(t, "Blob", r, api.OK, 0)
			if !bytes.Equal(p, x.b[1:x.n]) {
				t.Fatalf("%x, %d: %x", x.b, x.most, p)
			}
		}
	}
}

// P1.3

func TestFail(t *testing.T) {
	for _, e := range []api.Errno{api.ErrArg, api.ErrDeep, -1, 1000} {
		r := num.NewReader([]byte{1, 2, 3})
		r.Take(2)
		r.Fail(e)
		wantStopped(t, "Fail", r, e, 2)
	}
	r := num.NewReader([]byte{1, 2, 3})
	r.Take(1)
	r.Fail(api.OK)
	wantErr(t, "Fail(OK)", r, api.OK, 0)
	if v := r.Var(); v != 2 {
		t.Fatalf("%d behind Fail(OK)", v)
	}
	r.Take(2)
	r.Fail(api.ErrRange)
	wantStopped(t, "Fail behind an error", r, api.ErrShort, 2)
}

func TestPlaces(t *testing.T) {
	b := num.PutBlob(num.PutFix(num.PutVar(nil, 300), 7, 4), []byte("abc"))
	r := num.NewReader(b)
	stands := func(at int) {
		t.Helper()
		if r.At() != at || r.Left() != len(b)-at {
			t.Fatalf("at %d with %d left, not at %d", r.At(), r.Left(), at)
		}
	}
	stands(0)
	r.Var()
	stands(2)
	r.Fix(4)
	stands(6)
	r.Blob(3)
	stands(10)
	r.Fix(0)
	stands(10)
}

func TestEnd(t *testing.T) {
	r := num.NewReader([]byte{1, 2})
	if e, at := r.End(); e != api.ErrLong || at != 0 {
		t.Fatal(e, at)
	}
	wantErr(t, "End isn't kept", r, api.OK, 0)
	r.Var()
	if e, at := r.End(); e != api.ErrLong || at != 1 {
		t.Fatal(e, at)
	}
	if v := r.Var(); v != 2 {
		t.Fatalf("%d behind End", v)
	}
	if e, at := r.End(); e != api.OK || at != 0 {
		t.Fatal(e, at)
	}
	r.Fail(api.ErrSum)
	if e, at := r.End(); e != api.ErrSum || at != 2 {
		t.Fatal(e, at)
	}
	r = num.NewReader([]byte{1, 2})
	r.Fail(api.ErrKind)
	if e, at := r.End(); e != api.ErrKind || at != 0 {
		t.Fatal("bytes are left, but there is an error:", e, at)
	}
	if e, at := num.NewReader(nil).End(); e != api.OK || at != 0 {
		t.Fatal(e, at)
	}
}

// P1.4

// deed is one thing that is put, and how it is taken.
type deed struct {
	put  func(b []byte) []byte
	same func(r *num.Reader) bool
}

func deeds() (l []deed) {
	for i, v := range numbers() {
		size, text := i%9, bytes.Repeat([]byte{byte(v)}, i%130)
		cut := v
		if size < 8 {
			cut = v & (1<<(8*size) - 1)
		}
		l = append(l,
			deed{func(b []byte) []byte { return num.PutVar(b, v) }, func(r *num.Reader) bool { return r.Var() == v }},
			deed{func(b []byte) []byte { return num.PutFix(b, v, size) }, func(r *num.Reader) bool { return r.Fix(size) == cut }},
			deed{func(b []byte) []byte { return num.PutBlob(b, text) }, func(r *num.Reader) bool { return bytes.Equal(r.Blob(len(text)), text) }},
			deed{func(b []byte) []byte { return append(b, text...) }, func(r *num.Reader) bool { return bytes.Equal(r.Take(len(text)), text) }},
		)
	}
	return l
}

func TestWhatIsPutIsTaken(t *testing.T) {
	var b []byte
	for _, d := range deeds() {
		b = d.put(b)
	}
	r := num.NewReader(b)
	for i, d := range deeds() {
		if !d.same(r) {
			t.Fatalf("deed %d isn't taken as it was put", i)
		}
	}
	if e, at := r.End(); e != api.OK || at != 0 {
		t.Fatal(e, at)
	}
}

// TestCutAnywhere: bytes that end early tell ErrShort where that begins which
// isn't whole any more, and all ahead of it is taken.
func TestCutAnywhere(t *testing.T) {
	list := deeds()[:120]
	var b []byte
	begins := make([]int, len(list)+1)
	for i, d := range list {
		b = d.put(b)
		begins[i+1] = len(b)
	}
	for n := range len(b) {
		r := num.NewReader(b[:n])
		for i, d := range list {
			if begins[i+1] <= n {
				if !d.same(r) || r.At() != begins[i+1] {
					t.Fatalf("cut at %d: deed %d isn't taken", n, i)
				}
				continue
			}
			d.same(r)
			wantStopped(t, "cut", r, api.ErrShort, begins[i])
			break
		}
	}
}

func TestPutLeavesWhatIsHandedIn(t *testing.T) {
	for i, put := range []func(b []byte) []byte{
		func(b []byte) []byte { return num.PutVar(b, 300) },
		func(b []byte) []byte { return num.PutFix(b, 300, 4) },
		func(b []byte) []byte { return num.PutFix(b, 300, 0) },
		func(b []byte) []byte { return num.PutBlob(b, []byte{5}) },
	} {
		room := bytes.Repeat([]byte{7}, 64)
		one := put(room[:3])
		two := put(room[:3])
		want := bytes.Clone(two)
		for k := range one {
			one[k] ^= 0xff
		}
		if !bytes.Equal(room, bytes.Repeat([]byte{7}, 64)) || !bytes.Equal(two, want) {
			t.Fatalf("put %d shares memory", i)
		}
	}
	p := []byte{1, 2, 3}
	b := num.PutBlob(nil, p)
	b[1] = 9
	if p[0] != 1 {
		t.Fatal("PutBlob's answer shares memory with its part")
	}
	if b := num.PutBlob(p, p); !bytes.Equal(b, []byte{1, 2, 3, 3, 1, 2, 3}) {
		t.Fatalf("bytes behind themselves: %x", b)
	}
}

func TestReaderKeepsValuesOnly(t *testing.T) {
	b := []byte{1, 2, 3, 1, 5, 6}
	kept := bytes.Clone(b)
	r := num.NewReader(b)
	p := r.Take(2)
	p[0], p[1] = 99, 99
	_ = append(p, 99)
	if !bytes.Equal(b, kept) {
		t.Fatal("what is taken shares memory with what was handed in")
	}
	clear(b)
	if v := r.Var(); v != 3 {
		t.Fatalf("%d, not 3", v)
	}
	q := r.Blob(1)
	_ = append(q, 99)
	q[0] = 98
	if v := r.Var(); v != 6 {
		t.Fatalf("%d, not 6", v)
	}
}

func TestNilReader(t *testing.T) {
	var r *num.Reader
	r.Fail(api.ErrSum)
	if r.Var() != 0 || r.Fix(0) != 0 || r.Fix(-1) != 0 || len(r.Blob(1)) != 0 || len(r.Take(0)) != 0 || len(r.Take(-1)) != 0 {
		t.Fatal("something of a nil reader")
	}
	if r.At() != 0 || r.Left() != 0 {
		t.Fatal(r.At(), r.Left())
	}
	wantErr(t, "nil", r, api.ErrArg, 0)
	if e, at := r.End(); e != api.ErrArg || at != 0 {
		t.Fatal(e, at)
	}
}
