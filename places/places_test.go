package places_test

import (
	"bytes"
	"slices"
	"testing"

	"estreat/api"
	"estreat/num"
	"estreat/places"
)

// same is the place of a value that is its own place.
func same(v uint64) uint64 { return v }

// firstOf is a reader's list of so many values, each its own place, that has no
// bytes.
func firstOf(count int) func(*num.Reader, int) []uint64 {
	return func(*num.Reader, int) []uint64 { return rangeOf(count) }
}

// rangeOf is the numbers from 0 on, below n.
func rangeOf(n int) []uint64 {
	l := make([]uint64, n)
	for i := range l {
		l[i] = uint64(i)
	}
	return l
}

func wantGet(t *testing.T, b []byte, count int, want []uint64) {
	t.Helper()
	l, e := places.Get(b, len(want), firstOf(count))
	if e != api.OK || !slices.Equal(l, want) {
		t.Fatalf("%d values of %d in %.40x: %d, error %d", len(want), count, b, l, e)
	}
}

func TestPut(t *testing.T) {
	for _, x := range []struct {
		l     []uint64
		count int
		b     []byte
	}{
		{nil, 0, []byte{0}}, {[]uint64{0}, 1, []byte{0}}, {[]uint64{0, 0, 0}, 1, []byte{0}},
		{[]uint64{0, 1}, 2, []byte{1, 2}}, {[]uint64{1, 0, 1}, 2, []byte{1, 5}},
		{[]uint64{0, 1, 2}, 3, []byte{2, 0x24}}, {[]uint64{4, 3, 2, 1, 0}, 5, []byte{3, 0x9c, 2}},
	} {
		if b := places.Put(x.l, same); !bytes.Equal(b, x.b) {
			t.Fatalf("%d: %x, not %x", x.l, b, x.b)
		}
		wantGet(t, x.b, x.count, x.l)
	}
	fromTen := func(text string) uint64 { return uint64(len(text)) - 10 }
	if b := places.Put([]string{"twelve letter", "ten letters", "of ten one"}, fromTen); !bytes.Equal(b, []byte{2, 0x07}) {
		t.Fatalf("%x", b)
	}
}

func TestPutIsRead(t *testing.T) {
	for width := 1; width < 17; width++ {
		for _, count := range []int{1<<(width-1) + 1, 1 << width} {
			l := rangeOf(count)
			slices.Reverse(l[count/3:])
			b := places.Put(l, same)
			if b[0] != byte(width) || len(b) != 1+(count*width+7)/8 {
				t.Fatalf("%d places: a width of %d, %d bytes", count, b[0], len(b))
			}
			wantGet(t, b, count, l)
		}
	}
}

// What the list takes isn't the places', and it is told how many it may have.
func TestGetBehindTheList(t *testing.T) {
	readList := func(r *num.Reader, most int) []string {
		if most != 3 {
			t.Fatalf("a list of at most %d", most)
		}
		return []string{string(r.Blob(9)), string(r.Blob(9))}
	}
	l, e := places.Get([]byte{1, 'a', 2, 'b', 'c', 1, 5}, 3, readList)
	if e != api.OK || !slices.Equal(l, []string{"bc", "a", "bc"}) {
		t.Fatalf("%q, error %d", l, e)
	}
}

func TestGetErrors(t *testing.T) {
	for _, x := range []struct {
		what     string
		b        []byte
		n, count int
		e        api.Errno
	}{
		{"fewer than no values", []byte{0}, -1, 1, api.ErrArg},
		{"too many values", []byte{0}, api.MaxRows + 1, 1, api.ErrArg},
		{"no width", nil, 0, 0, api.ErrShort},
		{"no width of some", nil, 3, 3, api.ErrShort},
		{"a width of none", []byte{1}, 0, 0, api.ErrForm},
		{"a width of one", []byte{1, 0}, 1, 1, api.ErrForm},
		{"a smaller width", []byte{1, 2}, 3, 3, api.ErrForm},
		{"a greater width, nothing behind", []byte{3}, 3, 3, api.ErrForm},
		{"a width that none is", []byte{65}, 3, 3, api.ErrForm},
		{"too few", []byte{2, 0xff}, 5, 3, api.ErrShort},
		{"too many", []byte{2, 0xff, 0}, 3, 3, api.ErrLong},
		{"a bit that is left", []byte{2, 0xff}, 3, 3, api.ErrForm},
		{"a place that isn't there", []byte{2, 0x3f}, 3, 3, api.ErrRange},
		{"some of none", []byte{0}, 1, 0, api.ErrRange},
		{"the last at no place", []byte{2, 0x14}, 3, 3, api.ErrForm},
		{"the first at no place", []byte{1, 3}, 2, 2, api.ErrForm},
		{"one at no place, of none", []byte{0}, 0, 1, api.ErrForm},
	} {
		if l, e := places.Get(x.b, x.n, firstOf(x.count)); e != x.e || len(l) != 0 {
			t.Fatalf("%s: %d, error %d, not %d", x.what, l, e, x.e)
		}
	}
}

// What is wrong with the list is told ahead of what is wrong with the places.
func TestGetKeepsTheListsError(t *testing.T) {
	readList := func(r *num.Reader, _ int) []uint64 {
		r.Fail(api.ErrHash)
		return rangeOf(3)
	}
	for _, b := range [][]byte{nil, {0}, {2, 0x24}, {2, 0x3f}, {65}} {
		if l, e := places.Get(b, 3, readList); e != api.ErrHash || len(l) != 0 {
			t.Fatalf("%x: %d, error %d", b, l, e)
		}
	}
}

// What is handed in stays, and what is answered is new memory.
func TestMemory(t *testing.T) {
	room := rangeOf(30)
	places.Put(room[:10], same)[0] ^= 0xff
	if !slices.Equal(room, rangeOf(30)) {
		t.Fatal("the values aren't what they were")
	}
	b := places.Put(room, same)
	kept := bytes.Clone(b)
	list := func(*num.Reader, int) []uint64 { return room }
	l, _ := places.Get(b, len(room), list)
	clear(l)
	if !bytes.Equal(b, kept) || !slices.Equal(room, rangeOf(30)) {
		t.Fatal("the bytes, or the list, aren't what they were")
	}
}
