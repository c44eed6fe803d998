package disk_test

import (
	"slices"
	"testing"

	"estreat/api"
	"estreat/disk"
)

// model is a disk as the document's words tell it, file by file in a list: to
// hold the true one against it.
type model struct {
	room, fuse int
	down       bool
	files      []modelFile
}

type modelFile struct{ name, sure, tail string }

func (m *model) at(name string) int {
	return slices.IndexFunc(m.files, func(f modelFile) bool { return f.name == name })
}

func (m *model) used() (n int) {
	for _, f := range m.files {
		n += len(f.sure + f.tail)
	}
	return n
}

func (m *model) without(name string) {
	m.files = slices.DeleteFunc(m.files, func(f modelFile) bool { return f.name == name })
}

// modelName is right for the names that the steps below take.
func modelName(name string) bool { return name != "" && name != "A" }

// order is one step: a deed, or another call.
type order struct {
	kind, n  int
	name, to string
	b        string
	keeps    []int
}

const (
	oAppend = iota
	oSync
	oRename
	oDelete
	oCut
	oFuse
	oBoot
)

func (m *model) do(o order) api.Errno {
	switch {
	case o.kind == oFuse:
		m.fuse = o.n
		return api.OK
	case o.kind == oBoot:
		m.boot(o.keeps)
		return api.OK
	case m.down:
		return api.ErrCrash
	}
	fails := m.fuse == 0
	m.fuse = max(m.fuse-1, -1)
	if !fails || o.kind == oAppend {
		if e := m.deed(o); !fails {
			return e
		}
	}
	m.down = true
	return api.ErrCrash
}

func (m *model) deed(o order) api.Errno {
	i := m.at(o.name)
	switch {
	case !modelName(o.name):
		return api.ErrArg
	case o.kind == oAppend && m.used()+len(o.b) > m.room:
		return api.ErrFull
	case o.kind == oAppend && i < 0:
		m.files = append(m.files, modelFile{o.name, "", o.b})
		return api.OK
	case i < 0:
		return api.ErrNone
	}
	f := &m.files[i]
	switch o.kind {
	case oAppend:
		f.tail += o.b
	case oSync:
		f.sure, f.tail = f.sure+f.tail, ""
	case oDelete:
		m.without(o.name)
	case oRename:
		if !modelName(o.to) {
			return api.ErrArg
		}
		if o.to != o.name {
			whole := *f
			m.without(o.to)
			m.without(o.name)
			m.files = append(m.files, modelFile{o.to, whole.sure, whole.tail})
		}
	case oCut:
		whole := f.sure + f.tail
		if o.n < 0 || o.n > len(whole) {
			return api.ErrRange
		}
		n := min(o.n, len(f.sure))
		f.sure, f.tail = whole[:n], whole[n:o.n]
	}
	return api.OK
}

func (m *model) boot(keeps []int) {
	m.down, m.fuse = false, -1
	for _, name := range m.names() {
		f := &m.files[m.at(name)]
		if f.tail != "" && len(keeps) > 0 {
			by := len(f.tail) + 1
			f.tail = f.tail[:(keeps[0]%by+by)%by]
			keeps = keeps[1:]
		}
		f.sure, f.tail = f.sure+f.tail, ""
	}
}

func (m *model) names() (l []string) {
	for _, f := range m.files {
		l = append(l, f.name)
	}
	slices.Sort(l)
	return l
}

func obey(d *disk.Disk, o order) api.Errno {
	switch o.kind {
	case oAppend:
		return d.Append(o.name, []byte(o.b))
	case oSync:
		return d.Sync(o.name)
	case oRename:
		return d.Rename(o.name, o.to)
	case oDelete:
		return d.Delete(o.name)
	case oCut:
		return d.Cut(o.name, o.n)
	case oFuse:
		d.Fuse(o.n)
	case oBoot:
		d.Boot(o.keeps)
	}
	return api.OK
}

func same(d *disk.Disk, m *model) bool {
	if d.Down() != m.down {
		return false
	}
	if m.down {
		_, e := d.Read("a")
		return e == api.ErrCrash && len(d.Names()) == 0 && d.Used() == 0
	}
	for _, f := range m.files {
		if b, e := d.Read(f.name); e != api.OK || string(b) != f.sure+f.tail {
			return false
		}
	}
	return slices.Equal(d.Names(), m.names()) && d.Used() == m.used()
}

// orders makes steps by a short rule; each kind and each refusal comes up.
func orders(seed, count int) []order {
	v := uint64(seed)*0x9e3779b97f4a7c15 + 88172645463325252
	next := func(n int) int {
		v ^= v << 13
		v ^= v >> 7
		v ^= v << 17
		return int((v >> 20) % uint64(n))
	}
	names := []string{"a", "b", "a-b", "c.d", "0", "b", "a", "", "A"}
	kinds := []int{oAppend, oAppend, oAppend, oAppend, oSync, oRename, oDelete, oCut, oCut, oFuse, oBoot}
	l := make([]order, count)
	for i := range l {
		o := order{kind: kinds[next(len(kinds))], name: names[next(len(names))], to: names[next(len(names))], b: string(some(next(7)))}
		o.n = next(12) - 2
		for range next(4) {
			o.keeps = append(o.keeps, next(20)-10)
		}
		l[i] = o
	}
	return l
}

// P6.1 to P6.4, of many deeds, fuses and boots one behind the other.
func TestAgainstModel(t *testing.T) {
	told := map[int]map[api.Errno]int{}
	for seed := range 400 {
		room := seed % 40
		d, m := made(t, room), &model{room: room, fuse: -1}
		for i, o := range orders(seed, 120) {
			got, should := obey(d, o), m.do(o)
			if got != should || !same(d, m) {
				t.Fatalf("seed %d, step %d, %+v: %d, not %d; %q of %+v", seed, i, o, got, should, d.Names(), *m)
			}
			if told[o.kind] == nil {
				told[o.kind] = map[api.Errno]int{}
			}
			told[o.kind][got]++
		}
	}
	for kind, l := range map[int][]api.Errno{
		oAppend: {api.OK, api.ErrArg, api.ErrFull, api.ErrCrash},
		oSync:   {api.OK, api.ErrArg, api.ErrNone, api.ErrCrash},
		oRename: {api.OK, api.ErrArg, api.ErrNone, api.ErrCrash},
		oDelete: {api.OK, api.ErrArg, api.ErrNone, api.ErrCrash},
		oCut:    {api.OK, api.ErrArg, api.ErrNone, api.ErrRange, api.ErrCrash},
	} {
		for _, e := range l {
			if told[kind][e] < 20 {
				t.Errorf("kind %d: %d but %d times", kind, e, told[kind][e])
			}
		}
	}
}

// R7: the same steps have the same answers.
func TestSameAnswers(t *testing.T) {
	for seed := range 20 {
		one, other := made(t, 30), made(t, 30)
		for _, o := range orders(seed, 100) {
			if obey(one, o) != obey(other, o) || !slices.Equal(one.Names(), other.Names()) || one.Used() != other.Used() {
				t.Fatalf("seed %d, %+v", seed, o)
			}
		}
	}
}
