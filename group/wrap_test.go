package group

import (
	"errors"
	"testing"

	"estreat/api"
	"estreat/chunk"
	"estreat/sha"
	"estreat/zone"
)

// Errors of parts are wrapped with the column that they are of, and asked by errors.As:
// what is told outside is the number alone, so this is looked at from within.

// wantWrapped looks whether err is e, in column c.
func wantWrapped(t *testing.T, err error, e api.Errno, c int) {
	t.Helper()
	var f *fault
	var is api.Errno
	if !errors.As(err, &f) || f.column != c || !errors.As(err, &is) || is != e || !errors.Is(err, e) || errno(err) != e {
		t.Errorf("%v, want %v of column %d", err, e, c)
	}
}

// parts is a schema, a header and chunks of one row of so many columns.
func parts(t *testing.T, n int) ([]api.Column, api.Header, [][]byte) {
	t.Helper()
	h := api.Header{Rows: 1, Live: 1, Dead: sha.Sum([]byte{0})}
	var s []api.Column
	var chunks [][]byte
	for i := range n {
		l := []api.Value{{Kind: api.KInt, N: int64(i)}}
		b, e := chunk.Put(l, api.KInt, api.Plain)
		if e != api.OK {
			t.Fatal(e)
		}
		s, chunks = append(s, api.Column{Kind: api.KInt, Way: api.Plain}), append(chunks, b)
		h.Cols = append(h.Cols, api.ColHead{Zone: zone.Of(l), Chunk: sha.Sum(b)})
	}
	return s, h, chunks
}

func TestErrorsAreWrappedWithTheirColumn(t *testing.T) {
	for c := range 5 {
		s, h, chunks := parts(t, 5)
		h.Cols[c].Chunk[0]++
		_, _, err := open(s, h, []byte{0}, places(5), chunks)
		wantWrapped(t, err, api.ErrHash, c)
		if c > 0 {
			// The column is told, not at which place its chunk is.
			_, _, err = open(s, h, []byte{0}, []int{c}, chunks[c:c+1])
			wantWrapped(t, err, api.ErrHash, c)
		}

		s, h, chunks = parts(t, 5)
		chunks[c], h.Cols[c].Chunk = nil, sha.Sum(nil)
		_, _, err = open(s, h, []byte{0}, places(5), chunks)
		wantWrapped(t, err, api.ErrShort, c)

		s, h, chunks = parts(t, 5)
		chunks[c] = []byte{1, 1, api.Plain}
		h.Cols[c].Chunk = sha.Sum(chunks[c])
		_, _, err = open(s, h, []byte{0}, places(5), chunks)
		wantWrapped(t, err, api.ErrKind, c)

		s, h, chunks = parts(t, 5)
		h.Cols[c].Zone.Max.N++
		_, _, err = open(s, h, []byte{0}, places(5), chunks)
		wantWrapped(t, err, api.ErrForm, c)

		s, h, chunks = parts(t, 5)
		columns, _, err := open(s, h, []byte{0}, places(5), chunks)
		if err != nil {
			t.Fatal(err)
		}
		s[c].Way = api.Runs
		wantWrapped(t, laidAsAsked(s, columns, chunks), api.ErrForm, c)
	}
}

// What is wrong with no column isn't wrapped with one.
func TestErrorsOfNoColumn(t *testing.T) {
	s, h, chunks := parts(t, 2)
	for want, err := range map[api.Errno]error{
		api.ErrArg:  second(open(s, h, []byte{0}, []int{1, 0}, chunks)),
		api.ErrHash: second(open(s, h, []byte{1}, places(2), chunks)),
	} {
		var f *fault
		if errors.As(err, &f) || errno(err) != want {
			t.Errorf("%v, want %v", err, want)
		}
	}
	if errno(nil) != api.OK {
		t.Error(errno(nil))
	}
}

func second[A, B any](_ A, _ B, err error) error { return err }

func TestTextOfAnError(t *testing.T) {
	if s := (&fault{12, api.ErrHash}).Error(); s != "column 12: errno 13" {
		t.Error(s)
	}
}
