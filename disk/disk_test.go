package disk_test

import (
	"bytes"
	"math"
	"slices"
	"strconv"
	"strings"
	"testing"

	"estreat/api"
	"estreat/disk"
)

const maxRoom = 1 << 40

// some makes n bytes by a short rule.
func some(n int) []byte {
	b := make([]byte, n)
	v := uint64(n) + 88172645463325252
	for i := range b {
		v ^= v << 13
		v ^= v >> 7
		v ^= v << 17
		b[i] = byte(v >> 24)
	}
	return b
}

func made(t *testing.T, room int) *disk.Disk {
	t.Helper()
	d := disk.New(room)
	if d == nil {
		t.Fatalf("no disk of room %d", room)
	}
	return d
}

func want(t *testing.T, got, want api.Errno) {
	t.Helper()
	if got != want {
		t.Fatalf("%d, not %d", got, want)
	}
}

// put lays a file that has sure bytes, and a tail.
func put(t *testing.T, d *disk.Disk, name, sure, tail string) {
	t.Helper()
	want(t, d.Append(name, []byte(sure)), api.OK)
	want(t, d.Sync(name), api.OK)
	want(t, d.Append(name, []byte(tail)), api.OK)
}

// holds is whether the disk that is up has these files, told as name and bytes
// by turns, and nothing else.
func holds(t *testing.T, d *disk.Disk, parts ...string) {
	t.Helper()
	var names []string
	used := 0
	for i := 0; i < len(parts); i += 2 {
		names = append(names, parts[i])
		used += len(parts[i+1])
		b, e := d.Read(parts[i])
		if e != api.OK || string(b) != parts[i+1] {
			t.Fatalf("%s: %q (%d), not %q", parts[i], b, e, parts[i+1])
		}
	}
	if d.Down() {
		t.Fatal("it is down")
	}
	if got := d.Names(); !slices.Equal(got, names) {
		t.Fatalf("names %q, not %q", got, names)
	}
	if got := d.Used(); got != used {
		t.Fatalf("used %d, not %d", got, used)
	}
}

// deed is a call that counts for the fuse.
type deed struct {
	what string
	do   func(d *disk.Disk) api.Errno
}

func appends(name, b string) deed {
	return deed{"append " + name, func(d *disk.Disk) api.Errno { return d.Append(name, []byte(b)) }}
}

func syncs(name string) deed {
	return deed{"sync " + name, func(d *disk.Disk) api.Errno { return d.Sync(name) }}
}

func renames(from, to string) deed {
	return deed{"rename " + from + " " + to, func(d *disk.Disk) api.Errno { return d.Rename(from, to) }}
}

func deletes(name string) deed {
	return deed{"delete " + name, func(d *disk.Disk) api.Errno { return d.Delete(name) }}
}

func cuts(name string, n int) deed {
	return deed{"cut " + name + " " + strconv.Itoa(n), func(d *disk.Disk) api.Errno { return d.Cut(name, n) }}
}

// wrongNames are texts that aren't names.
var wrongNames = []string{"", " ", "A", "Z", "a b", "a/b", "a_b", "\x00", "a\n", "é", "\xff", "a\x00", strings.Repeat("a", 33), strings.Repeat("a", 1000)}

// P6.1: New

func TestNewOfRooms(t *testing.T) {
	for _, room := range []int{0, 1, 2, 1000, math.MaxInt32, maxRoom - 1, maxRoom} {
		holds(t, made(t, room))
	}
	for _, room := range []int{-1, -2, math.MinInt32, math.MinInt, maxRoom + 1, maxRoom * 2, math.MaxInt - 1, math.MaxInt} {
		if disk.New(room) != nil {
			t.Errorf("a disk of room %d", room)
		}
	}
}

func TestNewDisksAreApart(t *testing.T) {
	a, b := made(t, 10), made(t, 10)
	want(t, a.Append("a", []byte("123")), api.OK)
	a.Fuse(0)
	holds(t, b)
	want(t, b.Append("b", []byte("0123456789")), api.OK)
	holds(t, b, "b", "0123456789")
	holds(t, a, "a", "123")
}

// P6.1: names

func TestRightNames(t *testing.T) {
	for _, name := range []string{"a", "z", "0", "9", "-", ".", "..", "-.-", "log-12.new", "abcdefghijklmnopqrstuvwxyz", "0123456789", strings.Repeat("z", 32), strings.Repeat(".", 31)} {
		d := made(t, 100)
		want(t, d.Append(name, []byte("x")), api.OK)
		holds(t, d, name, "x")
		want(t, d.Sync(name), api.OK)
		want(t, d.Cut(name, 0), api.OK)
		want(t, d.Rename(name, "other"), api.OK)
		holds(t, d, "other", "")
		want(t, d.Rename("other", name), api.OK)
		holds(t, d, name, "")
		want(t, d.Delete(name), api.OK)
		holds(t, d)
	}
}

func TestEachByteOfNames(t *testing.T) {
	const right = "abcdefghijklmnopqrstuvwxyz0123456789-."
	for c := range 256 {
		e := api.ErrArg
		if strings.IndexByte(right, byte(c)) >= 0 {
			e = api.OK
		}
		s := string([]byte{byte(c)})
		for _, name := range []string{s, s + "a", "a" + s, "a" + s + "a", strings.Repeat("a", 31) + s, s + strings.Repeat("a", 31)} {
			d := made(t, 100)
			if got := d.Append(name, nil); got != e {
				t.Fatalf("%q: %d, not %d", name, got, e)
			}
			if _, got := d.Read(name); got != e {
				t.Fatalf("read %q: %d, not %d", name, got, e)
			}
		}
	}
}

func TestLengthsOfNames(t *testing.T) {
	for n := range 70 {
		e := api.ErrArg
		if n >= 1 && n <= 32 {
			e = api.OK
		}
		name := strings.Repeat("x", n)
		d := made(t, 100)
		want(t, d.Append(name, []byte("1")), e)
		put(t, d, "from", "1", "")
		want(t, d.Rename("from", name), e)
	}
}

func TestWrongNames(t *testing.T) {
	for _, name := range wrongNames {
		d := made(t, 100)
		put(t, d, "a", "12", "34")
		for _, x := range []deed{appends(name, "x"), appends(name, ""), syncs(name), renames(name, "b"), renames(name, "a"), renames(name, name), renames("a", name), deletes(name), cuts(name, 0), cuts(name, -1)} {
			if got := x.do(d); got != api.ErrArg {
				t.Fatalf("%q: %d", x.what, got)
			}
			holds(t, d, "a", "1234")
		}
		if b, e := d.Read(name); e != api.ErrArg || len(b) > 0 {
			t.Fatalf("read %q: %q, %d", name, b, e)
		}
	}
}

// P6.1: Append

func TestAppend(t *testing.T) {
	d := made(t, 100)
	want(t, d.Append("a", []byte("12")), api.OK)
	holds(t, d, "a", "12")
	want(t, d.Append("b", nil), api.OK)
	holds(t, d, "a", "12", "b", "")
	want(t, d.Append("a", []byte("3")), api.OK)
	want(t, d.Append("a", nil), api.OK)
	want(t, d.Append("a", []byte{}), api.OK)
	want(t, d.Append("b", []byte("4")), api.OK)
	holds(t, d, "a", "123", "b", "4")
}

func TestAppendIsTail(t *testing.T) {
	d := made(t, 100)
	want(t, d.Append("new", []byte("12")), api.OK)
	want(t, d.Append("new", []byte("34")), api.OK)
	put(t, d, "old", "12", "3")
	want(t, d.Append("old", []byte("4")), api.OK)
	d.Boot([]int{0, 0})
	holds(t, d, "new", "", "old", "12")
}

func TestAppendFull(t *testing.T) {
	for _, room := range []int{0, 1, 2, 10, 1000} {
		d := made(t, room)
		want(t, d.Append("a", some(room+1)), api.ErrFull)
		holds(t, d)
		want(t, d.Append("a", some(room)), api.OK)
		holds(t, d, "a", string(some(room)))
		for _, name := range []string{"a", "b"} {
			want(t, d.Append(name, []byte{1}), api.ErrFull)
			want(t, d.Append(name, some(room+5)), api.ErrFull)
			holds(t, d, "a", string(some(room)))
		}
		want(t, d.Append("a", nil), api.OK)
		want(t, d.Append("b", nil), api.OK)
		holds(t, d, "a", string(some(room)), "b", "")
	}
}

func TestFullOfSeveralFiles(t *testing.T) {
	d := made(t, 10)
	put(t, d, "a", "123", "4")
	put(t, d, "b", "", "12345")
	want(t, d.Append("a", []byte("56")), api.ErrFull)
	want(t, d.Append("c", []byte("56")), api.ErrFull)
	holds(t, d, "a", "1234", "b", "12345")
	want(t, d.Append("c", []byte("5")), api.OK)
	want(t, d.Append("b", []byte("5")), api.ErrFull)
	holds(t, d, "a", "1234", "b", "12345", "c", "5")
}

// Whatever takes bytes away makes room for as many, and not for one more.
func TestRoomThatIsMade(t *testing.T) {
	for _, x := range []struct {
		deed
		free int
	}{
		{deletes("a"), 4}, {deletes("b"), 6}, {cuts("a", 3), 1}, {cuts("a", 0), 4}, {cuts("a", 4), 0}, {cuts("b", 1), 5},
		{renames("a", "b"), 6}, {renames("b", "a"), 4}, {renames("a", "c"), 0}, {renames("a", "a"), 0}, {syncs("a"), 0},
	} {
		d := made(t, 10)
		put(t, d, "a", "12", "34")
		put(t, d, "b", "123", "456")
		want(t, x.do(d), api.OK)
		if d.Used() != 10-x.free {
			t.Fatalf("%s: used %d", x.what, d.Used())
		}
		want(t, d.Append("n", some(x.free+1)), api.ErrFull)
		want(t, d.Append("n", some(x.free)), api.OK)
		want(t, d.Append("n", []byte{1}), api.ErrFull)
	}
	d := made(t, 10)
	put(t, d, "a", "12", "34")
	put(t, d, "b", "123", "456")
	d.Boot([]int{1, 0})
	holds(t, d, "a", "123", "b", "123")
	want(t, d.Append("n", some(5)), api.ErrFull)
	want(t, d.Append("n", some(4)), api.OK)
}

// filled is a disk with so many files.
func filled(t *testing.T, n, room int) *disk.Disk {
	t.Helper()
	d := made(t, room)
	for i := range n {
		want(t, d.Append("f"+strconv.Itoa(i), nil), api.OK)
	}
	return d
}

func TestAppendLimit(t *testing.T) {
	d := filled(t, api.MaxFiles-1, 10)
	want(t, d.Append("last", []byte("12")), api.OK)
	names := d.Names()
	if len(names) != api.MaxFiles {
		t.Fatalf("%d files", len(names))
	}
	want(t, d.Append("more", nil), api.ErrLimit)
	want(t, d.Append("more", []byte("1")), api.ErrLimit)
	want(t, d.Append("more", some(11)), api.ErrLimit)
	want(t, d.Append("More", some(11)), api.ErrArg)
	want(t, d.Append("last", some(9)), api.ErrFull)
	if !slices.Equal(d.Names(), names) || d.Used() != 2 {
		t.Fatal("what is refused changed something")
	}
	want(t, d.Append("last", some(8)), api.OK)
	want(t, d.Append("last", nil), api.OK)
	want(t, d.Rename("last", "more"), api.OK)
	want(t, d.Append("last", nil), api.ErrLimit)
	want(t, d.Rename("more", "f0"), api.OK)
	want(t, d.Append("last", nil), api.OK)
	want(t, d.Append("more", nil), api.ErrLimit)
	want(t, d.Delete("f7"), api.OK)
	want(t, d.Append("more", nil), api.OK)
	want(t, d.Append("f7", nil), api.ErrLimit)
	d.Boot(nil)
	want(t, d.Append("f7", nil), api.ErrLimit)
}

// P6.1: Sync

func TestSync(t *testing.T) {
	d := made(t, 100)
	put(t, d, "a", "12", "34")
	put(t, d, "b", "", "56")
	want(t, d.Sync("a"), api.OK)
	want(t, d.Sync("a"), api.OK)
	holds(t, d, "a", "1234", "b", "56")
	want(t, d.Append("a", []byte("7")), api.OK)
	d.Boot([]int{0, 0})
	holds(t, d, "a", "1234", "b", "")
}

func TestSyncOfNoBytes(t *testing.T) {
	d := made(t, 100)
	want(t, d.Append("a", nil), api.OK)
	want(t, d.Sync("a"), api.OK)
	d.Boot([]int{0})
	holds(t, d, "a", "")
}

// P6.1: Rename

func TestRename(t *testing.T) {
	d := made(t, 100)
	put(t, d, "a", "12", "34")
	put(t, d, "c", "5", "")
	want(t, d.Rename("a", "d"), api.OK)
	holds(t, d, "c", "5", "d", "1234")
	want(t, d.Sync("a"), api.ErrNone)
	want(t, d.Append("a", []byte("new")), api.OK)
	holds(t, d, "a", "new", "c", "5", "d", "1234")
	d.Boot([]int{0, 0})
	holds(t, d, "a", "", "c", "5", "d", "12")
}

func TestRenameOntoAnother(t *testing.T) {
	d := made(t, 100)
	put(t, d, "a", "12", "34")
	put(t, d, "b", "567890", "12")
	want(t, d.Rename("a", "b"), api.OK)
	holds(t, d, "b", "1234")
	want(t, d.Rename("a", "b"), api.ErrNone)
	want(t, d.Append("b", []byte("5")), api.OK)
	holds(t, d, "b", "12345")
	d.Boot([]int{1})
	holds(t, d, "b", "123")
}

func TestRenameToTheSame(t *testing.T) {
	d := made(t, 100)
	put(t, d, "a", "12", "34")
	put(t, d, "b", "", "")
	for _, name := range []string{"a", "b"} {
		want(t, d.Rename(name, name), api.OK)
		holds(t, d, "a", "1234", "b", "")
	}
	d.Boot([]int{1})
	holds(t, d, "a", "123", "b", "")
}

func TestRenameRoundAbout(t *testing.T) {
	d := made(t, 100)
	put(t, d, "a", "1", "2")
	put(t, d, "b", "345", "6")
	want(t, d.Rename("a", "t"), api.OK)
	want(t, d.Rename("b", "a"), api.OK)
	want(t, d.Rename("t", "b"), api.OK)
	holds(t, d, "a", "3456", "b", "12")
	want(t, d.Append("a", []byte("7")), api.OK)
	holds(t, d, "a", "34567", "b", "12")
}

// P6.1: Delete

func TestDelete(t *testing.T) {
	d := made(t, 100)
	put(t, d, "a", "12", "34")
	put(t, d, "b", "5", "")
	want(t, d.Delete("a"), api.OK)
	holds(t, d, "b", "5")
	want(t, d.Delete("a"), api.ErrNone)
	want(t, d.Append("a", []byte("6")), api.OK)
	holds(t, d, "a", "6", "b", "5")
	d.Boot([]int{0})
	holds(t, d, "a", "", "b", "5")
}

// P6.1: Cut

func TestCut(t *testing.T) {
	for _, x := range []struct {
		n, keep    int
		left, kept string
	}{
		{0, 0, "", ""}, {0, 1, "", ""}, {1, 0, "1", "1"}, {2, 0, "12", "12"}, {3, 0, "123", "123"}, {3, 1, "123", "123"},
		{4, 0, "1234", "123"}, {4, 1, "1234", "1234"}, {5, 0, "12345", "123"}, {5, 1, "12345", "1234"}, {5, 2, "12345", "12345"},
		{6, 0, "123456", "123"}, {6, 3, "123456", "123456"},
	} {
		d := made(t, 100)
		put(t, d, "a", "123", "456")
		put(t, d, "b", "78", "9")
		want(t, d.Cut("a", x.n), api.OK)
		holds(t, d, "a", x.left, "b", "789")
		want(t, d.Cut("a", x.n+1), api.ErrRange)
		want(t, d.Cut("a", x.n), api.OK)
		holds(t, d, "a", x.left, "b", "789")
		keeps := []int{x.keep, 1}
		if x.n <= 3 {
			keeps = []int{1} // for b, as a has no tail
		}
		d.Boot(keeps)
		holds(t, d, "a", x.kept, "b", "789")
	}
}

func TestCutBeyond(t *testing.T) {
	d := made(t, 100)
	put(t, d, "a", "123", "456")
	put(t, d, "b", "", "")
	for _, n := range []int{7, 8, 100, math.MaxInt, -1, -2, -7, math.MinInt} {
		want(t, d.Cut("a", n), api.ErrRange)
		want(t, d.Cut("b", n), api.ErrRange)
	}
	want(t, d.Cut("b", 1), api.ErrRange)
	want(t, d.Cut("b", 0), api.OK)
	holds(t, d, "a", "123456", "b", "")
	d.Boot([]int{2})
	holds(t, d, "a", "12345", "b", "")
}

// What comes behind a cut is new: it is a tail, and nothing of what was cut off.
func TestAppendBehindCut(t *testing.T) {
	for n := range 6 {
		d := made(t, 100)
		put(t, d, "a", "123", "45")
		want(t, d.Cut("a", n), api.OK)
		want(t, d.Append("a", []byte("x")), api.OK)
		holds(t, d, "a", "12345"[:n]+"x")
		d.Boot([]int{0})
		holds(t, d, "a", "123"[:min(n, 3)])
	}
}

// P6.1: the order of refusals

func TestOrderOfRefusals(t *testing.T) {
	for _, x := range []struct {
		deed
		e api.Errno
	}{
		{appends("A", "12345678901"), api.ErrArg}, {appends("a", "1234567"), api.ErrFull}, {appends("c", "1234567"), api.ErrFull},
		{syncs("A"), api.ErrArg}, {syncs("c"), api.ErrNone},
		{deletes(""), api.ErrArg}, {deletes("c"), api.ErrNone},
		{renames("A", "B"), api.ErrArg}, {renames("A", "A"), api.ErrArg}, {renames("A", "b"), api.ErrArg},
		{renames("c", "B"), api.ErrNone}, {renames("c", "c"), api.ErrNone}, {renames("c", "a"), api.ErrNone}, {renames("c", ""), api.ErrNone},
		{renames("a", "B"), api.ErrArg}, {renames("a", ""), api.ErrArg},
		{cuts("A", -1), api.ErrArg}, {cuts("A", 0), api.ErrArg}, {cuts("c", -1), api.ErrNone}, {cuts("c", 0), api.ErrNone},
		{cuts("a", -1), api.ErrRange}, {cuts("a", 4), api.ErrRange},
	} {
		d := made(t, 10)
		put(t, d, "a", "12", "3")
		put(t, d, "b", "", "4")
		if got := x.do(d); got != x.e {
			t.Fatalf("%s: %d, not %d", x.what, got, x.e)
		}
		holds(t, d, "a", "123", "b", "4")
		d.Boot([]int{0, 0})
		holds(t, d, "a", "12", "b", "")
	}
}

// P6.2: the fuse

// right and refused are deeds on a disk of room 10 with the files a (12, 3) and b
// (none, 4).
func right() []deed {
	return []deed{appends("a", "56"), appends("c", "56"), appends("c", ""), appends("b", "123456"), syncs("a"), syncs("b"), renames("a", "c"), renames("a", "b"), renames("b", "b"), deletes("a"), deletes("b"), cuts("a", 0), cuts("a", 1), cuts("a", 3), cuts("b", 0)}
}

func refused() []deed {
	return []deed{appends("", "1"), appends("A", ""), appends("a", "1234567"), appends("c", "1234567"), syncs("A"), syncs("c"), renames("A", "b"), renames("c", "b"), renames("a", "B"), deletes(""), deletes("c"), cuts("A", 0), cuts("c", 0), cuts("a", 4), cuts("a", -1)}
}

func ready(t *testing.T) *disk.Disk {
	t.Helper()
	d := made(t, 10)
	put(t, d, "a", "12", "3")
	put(t, d, "b", "", "4")
	return d
}

// wantCrash looks for the power to fail at x, and then, with all tails kept, for
// these files.
func wantCrash(t *testing.T, d *disk.Disk, x deed, parts ...string) {
	t.Helper()
	if d.Down() {
		t.Fatalf("down ahead of %s", x.what)
	}
	if got := x.do(d); got != api.ErrCrash {
		t.Fatalf("%s: %d", x.what, got)
	}
	if !d.Down() {
		t.Fatalf("up behind %s", x.what)
	}
	d.Boot(nil)
	holds(t, d, parts...)
}

func TestFuseAtRefused(t *testing.T) {
	for _, x := range refused() {
		d := ready(t)
		d.Fuse(0)
		wantCrash(t, d, x, "a", "123", "b", "4")
	}
}

func TestFuseAtChanges(t *testing.T) {
	for _, x := range right()[4:] {
		d := ready(t)
		d.Fuse(0)
		wantCrash(t, d, x, "a", "123", "b", "4")
	}
}

// A sync at which the power fails makes nothing sure.
func TestFuseAtSync(t *testing.T) {
	d := ready(t)
	d.Fuse(0)
	want(t, d.Sync("a"), api.ErrCrash)
	d.Boot([]int{0, 0})
	holds(t, d, "a", "12", "b", "")
}

// A cut at which the power fails leaves what is sure, and the tail.
func TestFuseAtCut(t *testing.T) {
	d := ready(t)
	d.Fuse(0)
	want(t, d.Cut("a", 1), api.ErrCrash)
	d.Boot([]int{1, 0})
	holds(t, d, "a", "123", "b", "")
}

func TestFuseAtAppend(t *testing.T) {
	d := ready(t)
	d.Fuse(0)
	wantCrash(t, d, appends("a", "56"), "a", "12356", "b", "4")

	d = ready(t)
	d.Fuse(0)
	wantCrash(t, d, appends("c", "56"), "a", "123", "b", "4", "c", "56")

	d = ready(t)
	d.Fuse(0)
	wantCrash(t, d, appends("c", ""), "a", "123", "b", "4", "c", "")

	d = ready(t)
	d.Fuse(0)
	wantCrash(t, d, appends("b", "123456"), "a", "123", "b", "4123456")
}

// What an append lays at which the power fails is tail, with the tail ahead of it.
func TestFuseAtAppendIsTail(t *testing.T) {
	for keep, left := range []string{"12", "123", "1235", "12356"} {
		d := ready(t)
		d.Fuse(0)
		want(t, d.Append("a", []byte("56")), api.ErrCrash)
		d.Boot([]int{keep, 0})
		holds(t, d, "a", left, "b", "")
	}
	for keep, left := range []string{"", "5", "56"} {
		d := ready(t)
		d.Fuse(0)
		want(t, d.Append("c", []byte("56")), api.ErrCrash)
		d.Boot([]int{0, 0, keep})
		holds(t, d, "a", "12", "b", "", "c", left)
	}
}

func TestFuseAtAppendLimit(t *testing.T) {
	d := filled(t, api.MaxFiles, 10)
	names := d.Names()
	d.Fuse(0)
	want(t, d.Append("more", []byte("1")), api.ErrCrash)
	d.Boot(nil)
	if !slices.Equal(d.Names(), names) || d.Used() != 0 {
		t.Fatal("what is refused changed something")
	}
	d.Fuse(0)
	want(t, d.Append("f0", []byte("1")), api.ErrCrash)
	d.Boot(nil)
	if !slices.Equal(d.Names(), names) || d.Used() != 1 {
		t.Fatal("what isn't refused wasn't done ahead")
	}
}

// Each deed, refused or not, counts as one.
func TestFuseCounts(t *testing.T) {
	for n := range 5 {
		for _, x := range slices.Concat(right(), refused(), []deed{cuts("a", math.MaxInt)}) {
			d := ready(t)
			plain := ready(t)
			d.Fuse(n)
			for range n {
				got, should := x.do(d), x.do(plain)
				if got != should {
					t.Fatalf("%s: %d, not %d", x.what, got, should)
				}
			}
			if d.Down() {
				t.Fatalf("down behind %d: %s", n, x.what)
			}
			if !slices.Equal(d.Names(), plain.Names()) || d.Used() != plain.Used() {
				t.Fatalf("with a fuse another thing: %s", x.what)
			}
			want(t, d.Sync("a"), api.ErrCrash)
			if !d.Down() {
				t.Fatalf("up behind %d and one more: %s", n, x.what)
			}
		}
	}
}

// What isn't a deed doesn't count.
func TestFuseCountsDeedsAlone(t *testing.T) {
	d := ready(t)
	d.Fuse(1)
	for range 3 {
		d.Read("a")
		d.Read("A")
		d.Read("c")
		d.Names()
		d.Used()
		d.Down()
	}
	want(t, d.Append("a", []byte("5")), api.OK)
	d.Read("a")
	d.Names()
	holds(t, d, "a", "1235", "b", "4")
	want(t, d.Append("a", []byte("6")), api.ErrCrash)
}

func TestFuseBelowNone(t *testing.T) {
	for _, n := range []int{-1, -2, math.MinInt} {
		d := ready(t)
		d.Fuse(1)
		d.Fuse(n)
		for range 5 {
			want(t, d.Append("a", []byte("5")), api.OK)
			want(t, d.Sync("c"), api.ErrNone)
		}
		holds(t, d, "a", "12355555", "b", "4")
	}
	d := ready(t)
	for range 100 {
		want(t, d.Sync("a"), api.OK)
	}
	holds(t, d, "a", "123", "b", "4")
}

func TestFuseAnew(t *testing.T) {
	d := ready(t)
	d.Fuse(0)
	d.Fuse(2)
	want(t, d.Sync("a"), api.OK)
	d.Fuse(1)
	want(t, d.Sync("a"), api.OK)
	want(t, d.Sync("a"), api.ErrCrash)
	d.Boot(nil)
	d.Fuse(math.MaxInt)
	for range 10 {
		want(t, d.Sync("a"), api.OK)
	}
	d.Fuse(0)
	want(t, d.Sync("a"), api.ErrCrash)
}

func TestFuseGoneByBoot(t *testing.T) {
	d := ready(t)
	d.Fuse(2) // of a disk that isn't down
	d.Boot(nil)
	for range 5 {
		want(t, d.Sync("a"), api.OK)
	}
	d.Fuse(0)
	want(t, d.Sync("a"), api.ErrCrash)
	d.Fuse(1) // while it is down
	d.Boot(nil)
	for range 5 {
		want(t, d.Sync("a"), api.OK)
	}
	holds(t, d, "a", "123", "b", "4")
}

// P6.2: a disk that is down

func TestDown(t *testing.T) {
	d := ready(t)
	d.Fuse(0)
	want(t, d.Sync("a"), api.ErrCrash)
	for _, x := range slices.Concat(right(), refused()) {
		if got := x.do(d); got != api.ErrCrash {
			t.Fatalf("%s: %d", x.what, got)
		}
		for _, name := range []string{"a", "b", "c", "A", ""} {
			if b, e := d.Read(name); e != api.ErrCrash || len(b) > 0 {
				t.Fatalf("read %s: %q, %d", name, b, e)
			}
		}
		if l := d.Names(); len(l) > 0 {
			t.Fatalf("names %q", l)
		}
		if n := d.Used(); n != 0 {
			t.Fatalf("used %d", n)
		}
		if !d.Down() {
			t.Fatal("it is up")
		}
	}
	for _, n := range []int{-1, 0, 1} {
		d.Fuse(n)
		want(t, d.Append("a", []byte("5")), api.ErrCrash)
		if !d.Down() {
			t.Fatal("a fuse lets it be up")
		}
	}
	d.Boot([]int{1, 0})
	holds(t, d, "a", "123", "b", "")
}

// P6.3: Read

func TestRead(t *testing.T) {
	d := made(t, 100000)
	b := some(5000)
	for i := 0; i < len(b); i += 100 {
		want(t, d.Append("a", b[i:i+100]), api.OK)
	}
	got, e := d.Read("a")
	if e != api.OK || !bytes.Equal(got, b) {
		t.Fatal("other bytes", e)
	}
	for name, should := range map[string]api.Errno{"b": api.ErrNone, "A": api.ErrArg, "": api.ErrArg, strings.Repeat("a", 32): api.ErrNone, strings.Repeat("a", 33): api.ErrArg} {
		if got, e := d.Read(name); e != should || len(got) > 0 {
			t.Fatalf("%q: %q, %d", name, got, e)
		}
	}
}

// P6.3: Names

func TestNamesRise(t *testing.T) {
	d := made(t, 0)
	names := []string{"z", "a", "10", "9", "1", "a.b", "a-b", "ab", "a0", "-", ".", "..", ".-", "az", "aa", "zz", strings.Repeat("a", 32)}
	for i, name := range names {
		want(t, d.Append(name, nil), api.OK)
		should := slices.Sorted(slices.Values(names[:i+1]))
		for range 3 {
			if got := d.Names(); !slices.Equal(got, should) {
				t.Fatalf("%q, not %q", got, should)
			}
		}
	}
	if got := d.Names(); !slices.Equal(got, []string{"-", ".", ".-", "..", "1", "10", "9", "a", "a-b", "a.b", "a0", "aa", strings.Repeat("a", 32), "ab", "az", "z", "zz"}) {
		t.Fatalf("%q", got)
	}
}

// P6.3: Boot

// tails is a disk with files of which some have a tail: b of 3 bytes, d of 2, e
// of 1.
func tails(t *testing.T) *disk.Disk {
	t.Helper()
	d := made(t, 100)
	put(t, d, "e", "", "1") // ahead of others, though not by its name
	put(t, d, "a", "12", "")
	put(t, d, "b", "12", "345")
	put(t, d, "c", "", "")
	put(t, d, "d", "1", "23")
	return d
}

func TestBootKeeps(t *testing.T) {
	for _, x := range []struct {
		keeps   []int
		b, d, e string
	}{
		{nil, "12345", "123", "1"},
		{[]int{}, "12345", "123", "1"},
		{[]int{0}, "12", "123", "1"},
		{[]int{0, 0}, "12", "1", "1"},
		{[]int{0, 0, 0}, "12", "1", ""},
		{[]int{0, 0, 0, 0, 0}, "12", "1", ""},
		{[]int{1, 1, 1}, "123", "12", "1"},
		{[]int{2, 2, 0}, "1234", "123", ""},
		{[]int{3, 0, 1}, "12345", "1", "1"},
		{[]int{4, 3, 2}, "12", "1", ""},
		{[]int{5, 4, 3, 1, 1}, "123", "12", "1"},
		{[]int{1003, 1001, 1001}, "12345", "123", "1"},
		{[]int{-1, -1, -1}, "12345", "123", "1"},
		{[]int{-2, -2, -2}, "1234", "12", ""},
		{[]int{-3, -3, -3}, "123", "1", "1"},
		{[]int{-4, -4, -4}, "12", "123", ""},
		{[]int{-5}, "12345", "123", "1"},
		{[]int{math.MinInt, math.MinInt, math.MinInt}, "12", "12", ""},         // -2^63 is 0 by 4, 1 by 3, 0 by 2
		{[]int{math.MaxInt, math.MaxInt, math.MaxInt}, "12345", "12", "1"},     // 2^63 - 1 is 3 by 4, 1 by 3, 1 by 2
		{[]int{1, 1, 1, math.MaxInt, math.MinInt, -1, 0}, "123", "12", "1"},    // more than there are tails
		{[]int{0, math.MinInt + 1, math.MinInt + 1}, "12", "123", "1"},         // -2^63 + 1 is 2 by 3, 1 by 2
		{[]int{math.MinInt + 3, math.MaxInt - 1, 0}, "12345", "1", ""},         // 3 by 4; 2^63 - 2 is 0 by 3
		{[]int{math.MinInt + 5, math.MinInt + 2, 0}, "123", "1", ""},           // 1 by 4; 0 by 3
		{[]int{math.MinInt + 6, math.MinInt + 3, -1000001}, "1234", "12", "1"}, // 2 by 4; 1 by 3; 1 by 2
	} {
		for _, down := range []bool{false, true} {
			d := tails(t)
			if down {
				d.Fuse(0)
				want(t, d.Sync("b"), api.ErrCrash)
			}
			d.Boot(x.keeps)
			holds(t, d, "a", "12", "b", x.b, "c", "", "d", x.d, "e", x.e)
			d.Boot([]int{0, 0, 0}) // what is kept is sure
			holds(t, d, "a", "12", "b", x.b, "c", "", "d", x.d, "e", x.e)
		}
	}
}

func TestBootOfNoFiles(t *testing.T) {
	d := made(t, 10)
	d.Boot([]int{1, 2, 3})
	holds(t, d)
	d.Fuse(0)
	want(t, d.Sync("a"), api.ErrCrash)
	d.Boot(nil)
	holds(t, d)
}

func TestBootThenGoesOn(t *testing.T) {
	d := tails(t)
	d.Boot([]int{1, 1, 1})
	want(t, d.Append("b", []byte("xy")), api.OK)
	want(t, d.Append("c", []byte("z")), api.OK)
	holds(t, d, "a", "12", "b", "123xy", "c", "z", "d", "12", "e", "1")
	d.Boot([]int{1, 0})
	holds(t, d, "a", "12", "b", "123x", "c", "", "d", "12", "e", "1")
}

func TestExample(t *testing.T) {
	d := made(t, 10)
	want(t, d.Append("a", []byte{1, 2, 3}), api.OK)
	want(t, d.Sync("a"), api.OK)
	want(t, d.Append("a", []byte{4}), api.OK)
	d.Boot([]int{0})
	holds(t, d, "a", "\x01\x02\x03")
}

// P6.4: what is sure stays

func TestSureStays(t *testing.T) {
	for _, x := range slices.Concat(right()[:6], refused()) {
		for fuse := range 2 {
			d := ready(t)
			want(t, d.Sync("b"), api.OK)
			d.Fuse(fuse)
			x.do(d)
			d.Boot([]int{0, 0, 0})
			for name, sure := range map[string]string{"a": "12", "b": "4"} {
				if b, e := d.Read(name); e != api.OK || !strings.HasPrefix(string(b), sure) {
					t.Fatalf("%s: %s: %q, %d", x.what, name, b, e)
				}
			}
		}
	}
}

// P6.4: memory

func TestHandedInStays(t *testing.T) {
	d := made(t, 100)
	for _, n := range []int{0, 1, 5, 20} {
		whole := some(n + 10)
		b := slices.Clone(whole)
		want(t, d.Append("a", b[:n]), api.OK)
		want(t, d.Append("a", []byte{1}), api.OK)
		want(t, d.Cut("a", 0), api.OK)
		want(t, d.Append("a", []byte{2, 3, 4}), api.OK)
		if !bytes.Equal(b, whole) {
			t.Fatalf("%x, not %x", b, whole)
		}
	}
	put(t, d, "a", "1", "2")
	keeps := []int{-1, 7, 3}
	d.Boot(keeps[:2])
	if !slices.Equal(keeps, []int{-1, 7, 3}) {
		t.Fatal(keeps)
	}
}

func TestHandedInIsNotKept(t *testing.T) {
	d := made(t, 100)
	b := []byte("123")
	want(t, d.Append("a", b), api.OK)
	copy(b, "xyz")
	holds(t, d, "a", "123")
	want(t, d.Sync("a"), api.OK)
	copy(b, "456")
	d.Fuse(0)
	want(t, d.Append("b", b), api.ErrCrash)
	copy(b, "xyz")
	d.Boot(nil)
	holds(t, d, "a", "123", "b", "456")
}

// Of a list of keeps, what lies behind its length is no part of it.
func TestKeepsBehindTheLength(t *testing.T) {
	d := tails(t)
	d.Boot([]int{0, 0, 0}[:1])
	holds(t, d, "a", "12", "b", "12", "c", "", "d", "123", "e", "1")
}

func TestAnswersAreNew(t *testing.T) {
	d := made(t, 100)
	put(t, d, "a", "12", "34")
	put(t, d, "b", "5", "")
	one, _ := d.Read("a")
	other, _ := d.Read("a")
	copy(one, "xxxx")
	one = append(one, "yyyyyyyyyyyyyyyy"...)
	if string(other) != "1234" {
		t.Fatalf("%q", other)
	}
	want(t, d.Append("a", []byte("6")), api.OK)
	want(t, d.Cut("a", 1), api.OK)
	want(t, d.Append("a", []byte("789")), api.OK)
	if string(other) != "1234" {
		t.Fatalf("%q", other)
	}
	names := d.Names()
	names[0], names[1] = "x", "y"
	holds(t, d, "a", "1789", "b", "5")
	left, _ := d.Read("a")
	_ = append(left, "zzzz"...)
	want(t, d.Append("a", []byte("0")), api.OK)
	holds(t, d, "a", "17890", "b", "5")
}

// P6.4: nil

func TestNil(t *testing.T) {
	var d *disk.Disk
	for _, x := range slices.Concat(right(), refused()) {
		if got := x.do(d); got != api.ErrArg {
			t.Fatalf("%s: %d", x.what, got)
		}
	}
	for _, name := range []string{"a", "", "A"} {
		if b, e := d.Read(name); e != api.ErrArg || len(b) > 0 {
			t.Fatalf("%q, %d", b, e)
		}
	}
	if l := d.Names(); len(l) > 0 {
		t.Fatal(l)
	}
	if d.Used() != 0 || d.Down() {
		t.Fatal(d.Used(), d.Down())
	}
	for _, n := range []int{-1, 0, 1} {
		d.Fuse(n)
		want(t, d.Sync("a"), api.ErrArg)
		d.Boot([]int{n})
	}
	d.Boot(nil)
	if d.Down() {
		t.Fatal("down")
	}
}
