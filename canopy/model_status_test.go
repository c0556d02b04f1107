package canopy

import (
	"slices"
	"strconv"
	"strings"
	"testing"

	"canopy/api"
)

// bench is a store with what several models share of it.
type bench struct {
	s      *Store
	broken bool              // whether a Break has not come to anything yet
	ids    map[string]api.ID // the store's objects, by what is in them
	count  int               // how many of them have been taken in
}

func newBench(t *testing.T, s *Store) *bench {
	t.Helper()
	b := &bench{s: s, ids: map[string]api.ID{}}
	b.takeIn(t)
	return b
}

// takeIn takes in what has come into the store, and wants nothing to be there twice.
func (b *bench) takeIn(t *testing.T) {
	t.Helper()
	for b.count < b.s.Objects() {
		b.count++
		id := api.ID(b.count)
		data, e := b.s.GetFile(id)
		key := "f" + data
		if e != api.OK {
			key = "d"
			for _, entry := range getDir(t, b.s, id) {
				key += "/" + entry.Name + "/" + strconv.Itoa(int(entry.ID))
			}
		}
		if b.ids[key] != 0 {
			t.Fatalf("%q is there as %d and as %d", key, b.ids[key], id)
		}
		b.ids[key] = id
	}
}

// object answers the object of a thing; below 0, if it is none of the store's: all that are none are put into fresh.
func (b *bench) object(x *thing, fresh map[string]api.ID) api.ID {
	key := "f" + x.data
	if x.inner != nil {
		key = "d"
		for _, name := range x.names() {
			key += "/" + name + "/" + strconv.Itoa(int(b.object(x.inner[name], fresh)))
		}
	}
	if b.ids[key] != 0 {
		return b.ids[key]
	}
	if fresh[key] == 0 {
		fresh[key] = api.ID(-1 - len(fresh))
	}
	return fresh[key]
}

// commit tells whether there is room for what of the tree is not in the store.
func (m *model) commit() api.Errno {
	fresh := map[string]api.ID{}
	m.bench.object(m.root, fresh)
	if m.bench.count+len(fresh) > 400 {
		return api.ErrFull
	}
	return api.OK
}

// committed wants just those objects to be new in the store of which the tree had need, and answers its root's.
func (m *model) committed(t *testing.T) api.ID {
	t.Helper()
	fresh := map[string]api.ID{}
	m.bench.object(m.root, fresh)
	before := m.bench.count
	m.bench.takeIn(t)
	if m.bench.count != before+len(fresh) {
		t.Fatalf("%d objects, were %d, want %d more: %v", m.bench.count, before, len(fresh), fresh)
	}
	clear(fresh)
	id := m.bench.object(m.root, fresh)
	if len(fresh) > 0 {
		t.Fatalf("not in the store: %v", fresh)
	}
	return id
}

// files puts the bytes of all files of a tree under their paths.
func (x *thing) files(path string, all map[string]string) map[string]string {
	if x.inner == nil {
		all[path] = x.data
	}
	for name, y := range x.inner {
		y.files(strings.TrimPrefix(path+"/"+name, "/"), all)
	}
	return all
}

// status holds the files of the tree against those of the base, path for path.
func (m *model) status() answer {
	now, was := m.root.files("", map[string]string{}), m.base.files("", map[string]string{})
	all := map[string]int{}
	for path, data := range now {
		if old, ok := was[path]; !ok {
			all[path] = api.Added
		} else if old != data {
			all[path] = api.Changed
		}
	}
	for path := range was {
		if _, ok := now[path]; !ok {
			all[path] = api.Deleted
		}
	}
	var l []api.Change
	for path, what := range all {
		l = append(l, api.Change{Path: path, What: what})
	}
	slices.SortFunc(l, func(a, b api.Change) int { return slices.Compare([]byte(a.Path), []byte(b.Path)) })
	m.wantChanged(m.root, m.base)
	return answer{changes: tell(l)}
}

// wantChanged notes the directories into which one must look to tell the files apart; nil: there is nothing.
func (m *model) wantChanged(now, was *thing) {
	if same(now, was) {
		return
	}
	var inside, before map[string]*thing
	if now != nil && now.inner != nil {
		m.want(now)
		inside = now.inner
	}
	if was != nil && was.inner != nil {
		m.want(was)
		before = was.inner
	}
	for _, name := range (&thing{inner: inside}).names() {
		m.wantChanged(inside[name], before[name])
	}
	for _, name := range (&thing{inner: before}).names() {
		if inside[name] == nil {
			m.wantChanged(nil, before[name])
		}
	}
}

// same tells whether two things have the same in them; nil: there is nothing.
func same(x, y *thing) bool {
	if x == nil || y == nil {
		return x == y
	}
	if x.kind() != y.kind() || x.data != y.data || len(x.inner) != len(y.inner) {
		return false
	}
	for name := range x.inner {
		if !same(x.inner[name], y.inner[name]) {
			return false
		}
	}
	return true
}

// tell tells changes as one text.
func tell(l []api.Change) string {
	var all strings.Builder
	for _, change := range l {
		all.WriteString(strconv.Itoa(change.What) + change.Path + "//")
	}
	return all.String()
}
