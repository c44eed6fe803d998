package ledger_test

import (
	"bytes"
	"encoding/binary"
	"encoding/hex"
	"math"
	"slices"
	"testing"

	"estreat/api"
	"estreat/ledger"
	"estreat/num"
	"estreat/sha"
)

// P21.2: HeadOf

// sizes is numbers that ledgers may have of entries, and others.
func sizes() []int {
	l := []int{0, 1, 2, 3, 255, 256, 257, 65535, 65536, 1e6, 1 << 40, 1<<40 + 1, 0x0102030405060708, math.MaxInt, math.MaxInt - 1}
	for _, n := range slices.Clone(l) {
		l = append(l, -n-1)
	}
	for e := range 63 {
		l = append(l, 1<<e, -1<<e)
	}
	slices.Sort(l)
	return slices.Compact(l)
}

func TestHeadOf(t *testing.T) {
	for i, size := range sizes() {
		for _, root := range []api.Hash{{}, filled(0xff), digest(i), sha.Sum(nil), turned(api.Hash{}, i%256)} {
			head := ledger.HeadOf(size, root)
			fixed := binary.LittleEndian.AppendUint64(nil, uint64(size))
			if head != headOfBy(size, root) || head != sha.Tagged(3, fixed, root[:]) {
				t.Fatalf("head of %d and %x: %x, not %x", size, root, head, headOfBy(size, root))
			}
		}
	}
}

func TestHeadOfKnownSizes(t *testing.T) {
	for _, x := range []struct {
		size int
		root api.Hash
		want string
	}{
		{0, sha.Sum(nil), knownHeads()[0].head},
		{-1, api.Hash{}, "74c2e0cd6499bff61e3dce00b908a1ed1ccd5c5f349234af880f0d7b528f2810"},
	} {
		if head := ledger.HeadOf(x.size, x.root); hex.EncodeToString(head[:]) != x.want {
			t.Errorf("head of %d: %x, not %s", x.size, head, x.want)
		}
	}
}

// P21.2: Put

func TestPut(t *testing.T) {
	a, b := filled(0xaa), filled(0xbb)
	for _, x := range []struct {
		groups int
		want   []byte
	}{
		{0, []byte{0}}, {1, []byte{1}}, {127, []byte{127}},
		{128, []byte{0x80, 1}}, {300, []byte{0xac, 2}}, {1<<14 - 1, []byte{0xff, 0x7f}},
		{1 << 14, []byte{0x80, 0x80, 1}}, {65536, []byte{0x80, 0x80, 4}}, {mostGroups - 1, []byte{0xff, 0xff, 0x3f}}, {mostGroups, []byte{0x80, 0x80, 0x40}},
	} {
		want := slices.Concat(a[:], x.want, b[:])
		if got := ledger.Put(api.Entry{Schema: a, Groups: x.groups, Root: b}); !bytes.Equal(got, want) {
			t.Errorf("%d groups: %x, not %x", x.groups, got, want)
		}
	}
}

func TestPutByTheWords(t *testing.T) {
	for i := range 200 {
		e := entry(i)
		if got := ledger.Put(e); !bytes.Equal(got, formBy(e)) {
			t.Fatalf("%v: %x, not %x", e, got, formBy(e))
		}
	}
	for _, schema := range []api.Hash{{}, filled(0xff), digest(1)} {
		for _, root := range []api.Hash{{}, filled(0xff), digest(1)} {
			e := api.Entry{Schema: schema, Groups: 7, Root: root}
			if got := ledger.Put(e); !bytes.Equal(got, formBy(e)) {
				t.Fatalf("%v: %x, not %x", e, got, formBy(e))
			}
		}
	}
}

// What is put of an entry that isn't right is taken as none.
func TestPutOfWrongEntries(t *testing.T) {
	for _, g := range noGroups() {
		b := ledger.Put(api.Entry{Schema: digest(1), Groups: g, Root: digest(2)})
		wantTaken(t, b, 0, api.Entry{}, api.ErrRange, len(b))
	}
}

// P21.2: Take

// wantTaken looks whether of b, from the place at on, this is taken: an entry, so that
// the reader stands at the place behind it, or an error and its place.
func wantTaken(t *testing.T, b []byte, at int, want api.Entry, e api.Errno, place int) {
	t.Helper()
	r := num.NewReader(b)
	r.Take(at)
	got := ledger.Take(r)
	failure, told := r.Err()
	if got != want || failure != e {
		t.Fatalf("of %.80x: %v, error %d at %d, not %v, error %d", b, got, failure, told, want, e)
	}
	if e != api.OK {
		if told != place || r.At() != place {
			t.Fatalf("of %.80x: error %d at %d, not at %d", b, e, told, place)
		}
		// The error stays: nothing is taken any more.
		again := ledger.Take(r)
		if failure, told := r.Err(); again != (api.Entry{}) || failure != e || told != place {
			t.Fatalf("of %.80x, again: %v, error %d at %d", b, again, failure, told)
		}
		return
	}
	if r.At() != place || r.Left() != len(b)-place {
		t.Fatalf("of %.80x: the reader stands at %d, not at %d", b, r.At(), place)
	}
}

// around calls f with b alone, and with other bytes ahead of it and behind it.
func around(b []byte, f func(b []byte, at int)) {
	f(b, 0)
	for _, behind := range [][]byte{{0}, {0xff}, {1, 2, 3}, b, slices.Repeat([]byte{0x80}, 100)} {
		f(slices.Concat(b, behind), 0)
		f(slices.Concat([]byte{7, 8, 9}, b, behind), 3)
		f(slices.Concat(b, b, behind), len(b))
	}
}

// laid is what an entry's form may be, of any bytes for its number.
func laid(groups []byte) []byte {
	a, b := filled(0xaa), filled(0xbb)
	return slices.Concat(a[:], groups, b[:])
}

func TestTakeOfWhatIsPut(t *testing.T) {
	l := unlike(60)
	for i, g := range groups() {
		l = append(l, api.Entry{Groups: g}, api.Entry{Schema: filled(0xff), Groups: g, Root: filled(0x80)}, api.Entry{Schema: digest(i), Groups: g})
	}
	for _, e := range l {
		form := ledger.Put(e)
		around(form, func(b []byte, at int) {
			wantTaken(t, b, at, e, api.OK, at+len(form))
		})
	}
}

func TestTakeOfForms(t *testing.T) {
	for n := range 30 {
		entries := unlike(n)
		r := num.NewReader(slices.Concat(of(t, entries).Forms()...))
		for i, e := range entries {
			if got := ledger.Take(r); got != e {
				t.Fatalf("entry %d of %d: %v, not %v", i, n, got, e)
			}
		}
		if e, at := r.End(); e != api.OK || at != 0 {
			t.Fatalf("error %d at %d behind all", e, at)
		}
	}
}

func TestTakeOfAFormThatIsCutOff(t *testing.T) {
	for _, g := range groups() {
		form := laid(binary.AppendUvarint(nil, uint64(g)))
		root := len(form) - 32
		for n := range form {
			place := 0
			if n >= 32 {
				place = 32
			}
			if n >= root {
				place = root
			}
			wantTaken(t, form[:n], 0, api.Entry{}, api.ErrShort, place)
			wantTaken(t, slices.Concat([]byte{7, 8, 9}, form[:n]), 3, api.Entry{}, api.ErrShort, 3+place)
			wantTaken(t, slices.Concat(form, form[:n]), len(form), api.Entry{}, api.ErrShort, len(form)+place)
		}
	}
}

func TestTakeOfAShortNumberThatCantBe(t *testing.T) {
	for _, wrong := range [][]byte{
		{0x80, 0}, {0x81, 0}, {0xff, 0}, {0x80, 0x80, 0}, {0xac, 0x82, 0}, {0x80, 0x80, 0xc0, 0}, {0xff, 0xff, 0xff, 0},
		append(slices.Repeat([]byte{0xff}, 9), 2), append(slices.Repeat([]byte{0x80}, 9), 2), append(slices.Repeat([]byte{0x80}, 9), 0x7f), append(slices.Repeat([]byte{0x80}, 9), 0),
		append(slices.Repeat([]byte{0x80}, 10), 1), append(slices.Repeat([]byte{0x80}, 10), 0), append(append(slices.Repeat([]byte{0xff}, 9), 0x81), 1),
		slices.Repeat([]byte{0x80}, 11), slices.Repeat([]byte{0xff}, 11), slices.Repeat([]byte{0x80}, 40),
	} {
		around(laid(wrong), func(b []byte, at int) {
			wantTaken(t, b, at, api.Entry{}, api.ErrForm, at+32)
		})
		// It is told even where the bytes end right behind it.
		wantTaken(t, laid(wrong)[:32+len(wrong)], 0, api.Entry{}, api.ErrForm, 32)
	}
}

func TestTakeOfTooManyGroups(t *testing.T) {
	l := []uint64{mostGroups + 1, mostGroups + 2, 1<<21 - 1, 1 << 21, 1 << 31, 1<<31 + 1, 1 << 32, 1<<32 + 1, 1<<32 + mostGroups, 1 << 40, 1<<63 - 1, 1 << 63, 1<<63 + 1, 1<<63 + mostGroups, 1<<64 - mostGroups, math.MaxUint64 - 1, math.MaxUint64}
	for e := 21; e < 64; e++ {
		l = append(l, 1<<e-1, 1<<e, 1<<e+1, 1<<e+mostGroups)
	}
	for _, v := range l {
		form := laid(binary.AppendUvarint(nil, v))
		around(form, func(b []byte, at int) {
			wantTaken(t, b, at, api.Entry{}, api.ErrRange, at+len(form))
		})
		// The entry's end is asked for ahead of that.
		for n := len(form) - 32; n < len(form); n++ {
			wantTaken(t, form[:n], 0, api.Entry{}, api.ErrShort, len(form)-32)
		}
	}
}

// takeBy is what Take takes, by the words of the document.
func takeBy(b []byte) (e api.Entry, failure api.Errno, place int) {
	if len(b) < 32 {
		return e, api.ErrShort, 0
	}
	v, n := binary.Uvarint(b[32:])
	switch {
	case n < 0, n > 1 && b[32+n-1] == 0, n == 0 && len(b) == 42 && b[41]&0x7f > 1:
		return e, api.ErrForm, 32
	case n == 0:
		return e, api.ErrShort, 32
	case len(b) < 64+n:
		return e, api.ErrShort, 32 + n
	case v > mostGroups:
		return e, api.ErrRange, 64 + n
	}
	return api.Entry{Schema: api.Hash(b[:32]), Groups: int(v), Root: api.Hash(b[32+n : 64+n])}, api.OK, 64 + n
}

func wantTakenBy(t *testing.T, b []byte) api.Errno {
	t.Helper()
	e, failure, place := takeBy(b)
	wantTaken(t, b, 0, e, failure, place)
	return failure
}

func TestTakeOfAnyBytes(t *testing.T) {
	seen := make([]int, api.ErrDeep+1)
	for i := range 256 {
		for j := range 256 {
			for k := range 4 {
				seen[wantTakenBy(t, laid([]byte{byte(i), byte(j), byte(chance(i<<8+j) >> (8 * k))}))]++
			}
		}
	}
	for i := range 20000 {
		number := binary.AppendUvarint(nil, chance(i)>>(i%64))
		number[int(chance(i+1)%uint64(len(number)))] ^= 1 << (chance(i+2) % 8)
		b := laid(number)
		seen[wantTakenBy(t, b)]++
		seen[wantTakenBy(t, b[:chance(i+3)%uint64(len(b))])]++
	}
	for _, e := range []api.Errno{api.OK, api.ErrShort, api.ErrForm, api.ErrRange} {
		if seen[e] < 1000 {
			t.Errorf("error %d: %d times", e, seen[e])
		}
	}
}

func TestTakeOfTurnedForms(t *testing.T) {
	for _, g := range groups() {
		form := laid(binary.AppendUvarint(nil, uint64(g)))
		for bit := range 8 * len(form) {
			b := bytes.Clone(form)
			b[bit/8] ^= 1 << (bit % 8)
			wantTakenBy(t, b)
			wantTakenBy(t, append(b, 1, 2, 3))
		}
	}
}

// What is taken is put as it was.
func TestPutOfWhatIsTaken(t *testing.T) {
	for i := range 5000 {
		b := laid(binary.AppendUvarint(nil, chance(i)%(1<<(i%22))))
		r := num.NewReader(b)
		e := ledger.Take(r)
		if failure, _ := r.End(); failure == api.OK && !bytes.Equal(ledger.Put(e), b) {
			t.Fatalf("%x, not %x", ledger.Put(e), b)
		} else if failure != api.OK && e != (api.Entry{}) {
			t.Fatalf("error %d, and %v", failure, e)
		}
	}
}

// wantLeft looks whether nothing is taken of a reader that has failed, whose error and
// place stay.
func wantLeft(t *testing.T, r *num.Reader) {
	t.Helper()
	e, at := r.Err()
	place, left := r.At(), r.Left()
	if e == api.OK {
		t.Fatal("it hasn't failed")
	}
	got := ledger.Take(r)
	if failure, told := r.Err(); got != (api.Entry{}) || failure != e || told != at || r.At() != place || r.Left() != left {
		t.Fatalf("behind error %d at %d: %v, error %d at %d, and the reader stands at %d", e, at, got, failure, told, r.At())
	}
}

func TestTakeOfAReaderThatHasFailed(t *testing.T) {
	form := ledger.Put(entry(5))
	for e := api.ErrArg; e <= api.ErrDeep; e++ {
		for _, ahead := range []int{0, 3, 32, len(form), len(form) + 3} {
			r := num.NewReader(slices.Concat(make([]byte, 3), form, form))
			r.Take(ahead)
			r.Fail(e)
			wantLeft(t, r)
		}
	}
	for _, fail := range []func(r *num.Reader){
		func(r *num.Reader) { r.Take(1000) },
		func(r *num.Reader) { r.Take(-1) },
		func(r *num.Reader) { r.Fix(9) },
		func(r *num.Reader) { r.Blob(0) },
		func(r *num.Reader) { r.Take(len(form)); r.Fix(1) },
	} {
		r := num.NewReader(form)
		fail(r)
		wantLeft(t, r)
	}
}

// A failure behind an entry doesn't count for it.
func TestTakeAheadOfAFailure(t *testing.T) {
	form := ledger.Put(entry(7))
	r := num.NewReader(slices.Concat(form, form[:len(form)-1]))
	if got := ledger.Take(r); got != entry(7) {
		t.Fatalf("%v", got)
	}
	if got := ledger.Take(r); got != (api.Entry{}) {
		t.Fatalf("%v", got)
	}
	if e, at := r.End(); e != api.ErrShort || at != 2*len(form)-32 {
		t.Fatalf("error %d at %d", e, at)
	}
}

func TestTakeOfNil(t *testing.T) {
	var r *num.Reader
	if got := ledger.Take(r); got != (api.Entry{}) {
		t.Fatalf("%v", got)
	}
}
