// Package places lays values by a list of all that are there: by the place of
// each in it. What a value is, and how a list is laid, is its layer's matter.
package places

import (
	"slices"

	"estreat/api"
	"estreat/bits"
	"estreat/num"
)

// Put is what comes behind the list: a byte, the least width that the places of
// all values go into, and these, packed in it. In the width that they tell
// themselves Pack refuses none of them, as long as there are no more than
// api.MaxRows.
func Put[V any](l []V, placeOf func(V) uint64) []byte {
	at := make([]uint64, len(l))
	for i, v := range l {
		at[i] = placeOf(v)
	}
	width := bits.Width(at)
	packed, _ := bits.Pack(at, width)
	return slices.Concat([]byte{byte(width)}, packed)
}

// Get takes n values out of b, a list of at most so many and what Put laid behind
// it. It leaves it to the reader to keep the first error, of what is read and of
// what is wrong with it.
func Get[V any](b []byte, n int, readList func(r *num.Reader, most int) []V) ([]V, api.Errno) {
	if n < 0 || n > api.MaxRows {
		return nil, api.ErrArg
	}
	r := num.NewReader(b)
	list := readList(r, n)
	at := read(r, n, len(list))
	if e, _ := r.End(); e != api.OK {
		return nil, e
	}
	l := make([]V, n)
	for i, place := range at {
		l[i] = list[place]
	}
	return l, api.OK
}

// read takes n places in a list of so many values, with all bytes that are left.
// Each value of the list is at some place, so the last one tells the width that
// the places need.
func read(r *num.Reader, n, count int) []uint64 {
	last := uint64(max(count-1, 0))
	width := bits.Width([]uint64{last})
	if r.Fix(1) != uint64(width) {
		r.Fail(api.ErrForm)
	}
	at, e := bits.Unpack(r.Take(r.Left()), n, width)
	r.Fail(e)
	r.Fail(whole(at, count))
	return at
}

// whole tells why the places aren't those of a list of so many values, all of
// which are there.
func whole(at []uint64, count int) api.Errno {
	there := make([]bool, count)
	for _, place := range at {
		if place >= uint64(count) {
			return api.ErrRange
		}
		there[place] = true
	}
	if slices.Contains(there, false) {
		return api.ErrForm
	}
	return api.OK
}
