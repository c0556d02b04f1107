package canopy

import (
	"slices"
	"strings"
	"testing"

	"canopy/api"
)

// pair is a workspace and the model that it is held against.
type pair struct {
	s      *Store
	w      *Workspace
	m      *model
	broken *bool // whether a Break has not come to anything yet: of all pairs of one store
	log    []call
}

func newPair(t *testing.T, s *Store, root api.ID, broken *bool) *pair {
	t.Helper()
	m := &model{root: copyOut(t, s, dir("", root)), known: map[api.ID]bool{}}
	return &pair{s: s, w: checkout(t, s, root), m: m, broken: broken}
}

func (p *pair) breakNext(t *testing.T, how int) {
	t.Helper()
	want(t, "Break", p.s.Break(how), api.OK)
	*p.broken = true
}

// call does a call and holds its answer, and what was fetched, against the model.
func (p *pair) call(t *testing.T, c call) api.Errno {
	t.Helper()
	p.log = append(p.log, c)
	before := p.s.Fetched()
	want, do := p.m.expect(c)
	fetched := p.m.wanted
	if *p.broken && len(fetched) > 0 {
		*p.broken, fetched, want = false, nil, answer{e: api.ErrStore}
	}
	got := perform(p.w, c)
	if got != want {
		t.Fatalf("%+v = %+v, want %+v, after %+v", c, got, want, p.log)
	}
	if now := p.s.Fetched(); !slices.Equal(now, append(before, fetched...)) {
		t.Fatalf("%+v: fetched %v, were %v, want %v more, after %+v", c, now, before, fetched, p.log)
	}
	for _, id := range fetched {
		p.m.known[id] = true
	}
	if got.e == api.OK {
		do()
	}
	return got.e
}

// insist does a call again and again, each time with one of its fetches failing that has not failed yet.
func (p *pair) insist(t *testing.T, c call) {
	t.Helper()
	for i, step := range append(heads(c.path), heads(c.to)...) {
		p.breakNext(t, 1+i%2)
		if p.call(t, c) != api.ErrStore {
			return
		}
		p.call(t, call{name: "Stat", path: step})
	}
	p.call(t, c)
}

// heads answers the paths on the way to a path, and that path.
func heads(path string) []string {
	l, _ := split(path)
	all := []string{""}
	for i := range l {
		all = append(all, strings.Join(l[:i+1], "/"))
	}
	return all
}

// walk looks at everything that is there.
func (p *pair) walk(t *testing.T, path string, x *thing) {
	t.Helper()
	p.call(t, call{name: "Stat", path: path})
	p.call(t, call{name: "List", path: path})
	for _, name := range x.names() {
		p.walk(t, strings.TrimPrefix(path+"/"+name, "/"), x.inner[name])
	}
}

// dice: numbers that are the same in every run.
type dice uint64

func (d *dice) roll(n int) int {
	*d = *d*6364136223846793005 + 1442695040888963407
	return int(*d>>33) % n
}

// somePath goes down a tree, and astray now and then.
func somePath(d *dice, x *thing) string {
	strange := []string{"n0", "n1", "n2", "n3", "n17", "twelve.bytes", "\xff", "..", "", "thirteenbytes"}
	var l []string
	for d.roll(5) > 0 {
		name := strange[d.roll(4+d.roll(7))]
		if x != nil && len(x.inner) > 0 && d.roll(5) > 0 {
			name = x.names()[d.roll(len(x.inner))]
		}
		l = append(l, name)
		if x != nil {
			x = x.inner[name]
		}
	}
	return strings.Join(l, "/")
}

// someStore puts directories that share objects, one in so many of them a great one, and answers the last of them.
func someStore(t *testing.T, d *dice, great int) (*Store, []api.ID) {
	t.Helper()
	s := NewStore()
	empty := putDir(t, s)
	all := []api.Entry{file("", putFile(t, s, "")), file("", putFile(t, s, "abc")), dir("", empty), dir("", empty)}
	roots, sizes := []api.ID{empty}, map[api.ID]int{}
	for range 20 {
		n := 1 + d.roll(4)
		if d.roll(great) == 0 {
			n = 14 + d.roll(3)
		}
		l, size := numbered(n, 0), n
		for i := range l {
			object := all[d.roll(len(all))]
			l[i].Kind, l[i].ID = object.Kind, object.ID
			size += sizes[object.ID]
		}
		if id, e := s.PutDir(l); e == api.OK && size < 1000 {
			all, roots, sizes[id] = append(all, dir("", id)), append(roots, id), size
		}
	}
	return s, roots[max(0, len(roots)-6):]
}

// P3, P6 to P10, P15: workspaces of one store, with failing fetches in between, answer what a tree would that had been copied out whole, and fetch just what is wanted, once.
func TestModelRandom(t *testing.T) {
	names := []string{"Stat", "List", "Mkdir", "Mkdir", "Remove", "Rename", "Rename", "Rename"}
	for seed := range 300 {
		d := dice(seed)
		s, roots := someStore(t, &d, []int{4, 20, 1000}[seed%3])
		broken := false
		var all []*pair
		for range 3 {
			all = append(all, newPair(t, s, roots[d.roll(len(roots))], &broken))
		}
		for range 300 {
			p := all[d.roll(len(all))]
			if d.roll(3) == 0 {
				p.breakNext(t, 1+d.roll(2))
			}
			c := call{name: names[d.roll(len(names))], path: somePath(&d, p.m.root)}
			if c.name == "Rename" {
				c.to = somePath(&d, p.m.root)
			}
			p.call(t, c)
		}
		for _, p := range all {
			p.walk(t, "", p.m.root)
		}
	}
}

// severalStore puts a tree with everything in it that a call may meet.
func severalStore(t *testing.T) (*Store, api.ID) {
	t.Helper()
	s := NewStore()
	a, b := putFile(t, s, "abc"), putFile(t, s, "")
	empty := putDir(t, s)
	x := putDir(t, s, file("x", a), dir("e", empty))
	full := putDir(t, s, append(numbered(14, a), file("x", b), dir("e", x))...)
	g, h := nest(t, s, 3, dir("in", empty), dir("k", empty)), nest(t, s, 2, file("x", a))
	return s, putDir(t, s, file("a", a), file("aa", b), dir("d", x), dir("e", empty), dir("f", full), dir("g", g), dir("h", h))
}

// severalPaths are paths into that tree, beside it, and such as are none.
func severalPaths() []string {
	return []string{
		"", "/", "a/", "..", "a/b/c/d/e/f", "a", "aa", "b", "a/b", "a/b/c/d/e", "b/c",
		"d", "d/x", "d/e", "d/n", "d/x/y", "d/n/m", "d/e/n", "e", "e/n",
		"f", "f/x", "f/n0", "f/new", "f/e", "f/e/e", "f/e/x", "f/e/n",
		"g", "g/in", "g/in/in", "g/in/in/k", "g/in/in/in", "g/in/in/in/n", "g/in/in/in/n/m", "g/n", "h", "h/in", "h/in/x", "h/in/x/y",
	}
}

// P3, P8 to P10: every call at every one of these paths, with each fetch that it needs failing once, and then everything there is.
func TestModelEveryPath(t *testing.T) {
	for _, from := range severalPaths() {
		calls := []call{{"Stat", from, ""}, {"List", from, ""}, {"Mkdir", from, ""}, {"Remove", from, ""}}
		for _, to := range severalPaths() {
			calls = append(calls, call{"Rename", from, to})
		}
		for _, c := range calls {
			s, root := severalStore(t)
			broken := false
			for _, do := range []func(*pair){
				func(p *pair) { p.call(t, c) },
				func(p *pair) { p.insist(t, c) },
				func(p *pair) { p.insist(t, c); p.insist(t, c) },
			} {
				p := newPair(t, s, root, &broken)
				do(p)
				p.walk(t, "", p.m.root)
			}
		}
	}
}
