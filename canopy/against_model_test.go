package canopy

import (
	"fmt"
	"slices"
	"strings"
	"testing"

	"canopy/api"
)

// pair is a workspace and the model that it is held against.
type pair struct {
	*bench
	w   *Workspace
	m   *model
	log []call
}

func newPair(t *testing.T, b *bench, root api.ID) *pair {
	t.Helper()
	m := &model{bench: b, base: copyOut(t, b.s, dir("", root)), root: copyOut(t, b.s, dir("", root)), known: map[api.ID]bool{}}
	return &pair{bench: b, w: checkout(t, b.s, root), m: m}
}

func (p *pair) breakNext(t *testing.T, how int) {
	t.Helper()
	want(t, "Break", p.s.Break(how), api.OK)
	p.broken = true
}

// call does a call and holds its answer, what was fetched, and what came into the store, against the model.
func (p *pair) call(t *testing.T, c call) answer {
	t.Helper()
	p.log = append(p.log, c)
	before := p.s.Fetched()
	want, do := p.m.expect(c)
	fetched := p.m.wanted
	if p.broken && len(fetched) > 0 {
		p.broken, fetched, want = false, nil, answer{e: api.ErrStore}
	}
	got := perform(p.w, c)
	if c.name == "Commit" && want.e == api.OK {
		want.id = p.m.committed(t)
	}
	if got != want || p.s.Objects() != p.count {
		t.Fatalf("%+v = %+v, want %+v; %d objects, want %d, after %+v", c, got, want, p.s.Objects(), p.count, p.log)
	}
	if now := p.s.Fetched(); !slices.Equal(now, append(before, fetched...)) {
		t.Fatalf("%+v: fetched %v, were %v, want %v more, after %+v", c, now, before, fetched, p.log)
	}
	for _, id := range fetched {
		p.m.known[id] = true
	}
	if got.e == api.OK {
		do()
	}
	return got
}

// insist does a call again and again, each time with one of its fetches failing that has not failed yet.
func (p *pair) insist(t *testing.T, c call) {
	t.Helper()
	for i, step := range append(heads(c.path), heads(c.to)...) {
		p.breakNext(t, 1+i%2)
		if p.call(t, c).e != api.ErrStore {
			return
		}
		p.call(t, at("Stat", step))
	}
	p.call(t, c)
}

// heads answers the paths on the way to a path, and that path.
func heads(path string) []string {
	l, _ := split(path)
	all := []string{""}
	for i := range l {
		all = append(all, strings.Join(l[:i+1], "/"))
	}
	return all
}

// walk looks at everything that is there, and into every file.
func (p *pair) walk(t *testing.T, path string, x *thing) {
	t.Helper()
	p.call(t, at("Stat", path))
	p.call(t, at("List", path))
	for _, name := range x.names() {
		p.walk(t, strings.TrimPrefix(path+"/"+name, "/"), x.inner[name])
	}
	if number := slices.Index(p.m.open[:], nil); x.inner == nil && p.call(t, opening(path, api.Read)).e == api.OK {
		p.call(t, reading(number, 300))
		p.call(t, onFile("Close", number, 0))
	}
}

// finish looks at what has changed, commits it, and looks at all that is open, and at all that is there; then at what was committed.
func (p *pair) finish(t *testing.T) {
	t.Helper()
	p.call(t, at("Status", ""))
	got := p.call(t, at("Commit", ""))
	p.call(t, at("Status", ""))
	for number := range 8 {
		p.call(t, reading(number, 1))
		p.call(t, onFile("Seek", number, 0))
		p.call(t, reading(number, 300))
		p.call(t, onFile("Close", number, 0))
	}
	p.walk(t, "", p.m.root)
	if got.e == api.OK {
		again := newPair(t, p.bench, got.id)
		again.walk(t, "", p.m.root)
		again.call(t, at("Status", ""))
	}
}

// dice: numbers that are the same in every run.
type dice uint64

func (d *dice) roll(n int) int {
	*d = *d*6364136223846793005 + 1442695040888963407
	return int(*d>>33) % n
}

// somePath goes down a tree, and astray now and then.
func somePath(d *dice, x *thing) string {
	strange := []string{"n0", "n1", "n2", "n3", "n17", "twelve.bytes", "\xff", "..", "", "thirteenbytes"}
	var l []string
	for d.roll(5) > 0 {
		name := strange[d.roll(4+d.roll(7))]
		if x != nil && len(x.inner) > 0 && d.roll(5) > 0 {
			name = x.names()[d.roll(len(x.inner))]
		}
		l = append(l, name)
		if x != nil {
			x = x.inner[name]
		}
	}
	return strings.Join(l, "/")
}

// someStore puts directories that share objects, one in so many of them a great one, and answers the last of them.
func someStore(t *testing.T, d *dice, great int) (*Store, []api.ID) {
	t.Helper()
	s := NewStore()
	empty := putDir(t, s)
	all := []api.Entry{file("", putFile(t, s, "")), file("", putFile(t, s, "abc")), file("", putFile(t, s, strings.Repeat("abc", 85))), dir("", empty), dir("", empty)}
	roots, sizes := []api.ID{empty}, map[api.ID]int{}
	for range 20 {
		n := 1 + d.roll(4)
		if d.roll(great) == 0 {
			n = 14 + d.roll(3)
		}
		l, size := numbered(n, 0), n
		for i := range l {
			object := all[d.roll(len(all))]
			l[i].Kind, l[i].ID = object.Kind, object.ID
			size += sizes[object.ID]
		}
		if id, e := s.PutDir(l); e == api.OK && size < 1000 {
			all, roots, sizes[id] = append(all, dir("", id)), append(roots, id), size
		}
	}
	return s, roots[max(0, len(roots)-6):]
}

// someFlags answers flags, now and then such as are none.
func someFlags(d *dice) int {
	if d.roll(10) == 0 {
		return d.roll(70) - 3
	}
	flags := []int{api.Read, api.Write, api.Read + api.Write, api.Read + api.Write + api.Create}[d.roll(4)]
	if flags != api.Read {
		flags += []int{0, 0, api.Truncate, api.Append, api.Truncate + api.Append}[d.roll(5)]
	}
	return flags
}

// someCall makes a call that may do something, or nothing.
func someCall(d *dice, m *model) call {
	names := []string{
		"Stat", "List", "Mkdir", "Mkdir", "Remove", "Rename", "Rename", "Rename",
		"Open", "Open", "Open", "Read", "Read", "Write", "Write", "Seek", "Resize", "Close",
		"Status", "Commit",
	}
	c := call{name: names[d.roll(len(names))]}
	switch c.name {
	case "Status", "Commit":
		return c
	case "Rename":
		c.path, c.to = somePath(d, m.root), somePath(d, m.root)
	case "Stat", "List", "Mkdir", "Remove":
		c.path = somePath(d, m.root)
	case "Open":
		c.path, c.n = somePath(d, m.root), someFlags(d)
	default:
		c.file = d.roll(4)
		if d.roll(4) == 0 {
			c.file = d.roll(10) - 1
		}
		c.n = []int{0, 1, 2, 3, d.roll(258), 256, 257 - d.roll(300)}[d.roll(7)]
	}
	if c.name == "Write" {
		c.data = strings.Repeat("wxyz", 65)[d.roll(4):][:[]int{0, 1, 2, 3, 5, d.roll(257), 256, 257}[d.roll(8)]]
		c.n = 0
	}
	return c
}

// P3, P6 to P15: workspaces of one store, with failing fetches in between, answer what a tree would that had been copied out whole, and fetch just what is wanted, once; commits bring just what is new, as long as there is room.
func TestModelRandom(t *testing.T) {
	for seed := range 300 {
		d := dice(seed)
		s, roots := someStore(t, &d, []int{4, 20, 1000}[seed%3])
		if seed%4 == 0 {
			fill(t, s, 400-d.roll(100))
		}
		objects := s.Objects()
		stored := everything(s, objects)
		b := newBench(t, s)
		var all []*pair
		for range 3 {
			all = append(all, newPair(t, b, roots[d.roll(len(roots))]))
		}
		for range 500 {
			i := d.roll(len(all))
			if d.roll(3) == 0 {
				all[i].breakNext(t, 1+d.roll(2))
			}
			got := all[i].call(t, someCall(&d, all[i].m))
			if got.id != 0 && d.roll(2) == 0 {
				all[i] = newPair(t, b, got.id)
			}
		}
		for _, p := range all {
			p.finish(t)
		}
		if now := everything(s, objects); now != stored {
			t.Errorf("the store became %q, was %q", now, stored)
		}
	}
}

// everything tells the first n objects of a store, as one text.
func everything(s *Store, n int) string {
	var all strings.Builder
	for id := range api.ID(n + 1) {
		data, e := s.GetFile(id)
		l, f := s.GetDir(id)
		fmt.Fprintln(&all, id, data, e, l, f)
	}
	return all.String()
}

// severalStore puts a tree with everything in it that a call may meet.
func severalStore(t *testing.T) (*Store, api.ID) {
	t.Helper()
	s := NewStore()
	a, b := putFile(t, s, "abc"), putFile(t, s, "")
	empty := putDir(t, s)
	x := putDir(t, s, file("x", a), dir("e", empty))
	full := putDir(t, s, append(numbered(14, a), file("x", b), dir("e", x))...)
	g, h := nest(t, s, 3, dir("in", empty), dir("k", empty)), nest(t, s, 2, file("x", a))
	return s, putDir(t, s, file("a", a), file("aa", b), dir("d", x), dir("e", empty), dir("f", full), dir("g", g), dir("h", h))
}

// severalPaths are paths into that tree, beside it, and such as are none.
func severalPaths() []string {
	return []string{
		"", "/", "a/", "..", "a/b/c/d/e/f", "a", "aa", "b", "a/b", "a/b/c/d/e", "b/c",
		"d", "d/x", "d/e", "d/n", "d/x/y", "d/n/m", "d/e/n", "e", "e/n",
		"f", "f/x", "f/n0", "f/new", "f/e", "f/e/e", "f/e/x", "f/e/n",
		"g", "g/in", "g/in/in", "g/in/in/k", "g/in/in/in", "g/in/in/in/n", "g/in/in/in/n/m", "g/n", "h", "h/in", "h/in/x", "h/in/x/y",
	}
}

// P3, P8 to P10: every call at every one of these paths, with each fetch that it needs failing once, and then everything there is.
func TestModelEveryPath(t *testing.T) {
	for _, from := range severalPaths() {
		calls := []call{at("Stat", from), at("List", from), at("Mkdir", from), at("Remove", from)}
		for _, to := range severalPaths() {
			calls = append(calls, rename(from, to))
		}
		for flags := range 64 {
			if flagsFit(flags) {
				calls = append(calls, opening(from, flags))
			}
		}
		for _, c := range calls {
			s, root := severalStore(t)
			b := newBench(t, s)
			for _, do := range []func(*pair){
				func(p *pair) { p.call(t, c) },
				func(p *pair) { p.insist(t, c) },
				func(p *pair) { p.insist(t, c); p.insist(t, c) },
			} {
				p := newPair(t, b, root)
				do(p)
				p.finish(t)
			}
		}
	}
}

// fileCalls are calls at and behind the edges of a file of 3 bytes.
func fileCalls() []call {
	var calls []call
	for _, n := range []int{-1, 0, 1, 2, 3, 4, 255, 256, 257} {
		calls = append(calls, reading(0, n), onFile("Seek", 0, n), onFile("Resize", 0, n), writing(0, strings.Repeat("x", max(0, n))))
	}
	return append(calls, onFile("Close", 0, 0), reading(1, 1), writing(1, "y"))
}

// P3, P8, P11, P12: every one of these calls on a file opened so and so, at a place, that was touched or not, and has met one of the fates that a file may meet; with its fetch failing first.
func TestModelOpenFile(t *testing.T) {
	touches := [][]call{nil, {reading(1, 1)}, {writing(1, "z")}, {at("Stat", "d/x")}, {opening("d/x", api.Write+api.Truncate)}}
	fates := [][]call{nil, {at("Remove", "d/x")}, {rename("d/x", "n")}, {rename("d", "n")}, {rename("a", "d/x")}, {rename("d/x", "a")}, {at("Remove", "d/x"), opening("d/x", both+api.Create)}}
	for _, flags := range []int{api.Read, api.Write, both, api.Write + api.Append, both + api.Append, both + api.Truncate, both + api.Append + api.Create} {
		for _, touch := range touches {
			for _, fate := range fates {
				for _, place := range []int{0, 2, 3, 5, 256} {
					setup := append([]call{opening("d/x", flags), opening("d/x", both)}, touch...)
					setup = append(append(setup, fate...), onFile("Seek", 0, place))
					againstModel(t, setup, fileCalls())
				}
			}
		}
	}
}

// againstModel does each of the calls after the setup, in a store of its own.
func againstModel(t *testing.T, setup, calls []call) {
	t.Helper()
	for _, c := range calls {
		s, _, _, r := document(t)
		p := newPair(t, newBench(t, s), r)
		for _, before := range setup {
			p.call(t, before)
		}
		p.insist(t, c)
		p.finish(t)
	}
}
