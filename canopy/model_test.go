package canopy

import (
	"slices"
	"strings"
	"testing"

	"canopy/api"
)

// thing is what is at a path of a model: a workspace whose base has been copied out whole (P15).
type thing struct {
	id    api.ID            // the object that it was copied from; 0: none, or a file that was changed since
	data  string            // of a file
	inner map[string]*thing // nil: a file
}

func (x *thing) kind() int {
	if x.inner == nil {
		return api.File
	}
	return api.Dir
}

func (x *thing) names() []string {
	var l []string
	for name := range x.inner {
		l = append(l, name)
	}
	slices.Sort(l)
	return l
}

func (x *thing) height() int {
	height := 0
	for _, y := range x.inner {
		height = max(height, 1+y.height())
	}
	return height
}

// copyOut copies a stored tree out whole, by calls that fetch nothing.
func copyOut(t *testing.T, s *Store, entry api.Entry) *thing {
	t.Helper()
	if entry.Kind == api.File {
		data, e := s.GetFile(entry.ID)
		if e != api.OK {
			t.Fatalf("GetFile(%d): %d", entry.ID, e)
		}
		return &thing{id: entry.ID, data: data}
	}
	x := &thing{id: entry.ID, inner: map[string]*thing{}}
	for _, inner := range getDir(t, s, entry.ID) {
		x.inner[inner.Name] = copyOut(t, s, inner)
	}
	return x
}

// model tells what a workspace must answer, and what it must have fetched for that.
type model struct {
	bench  *bench
	base   *thing // stays as it was copied out
	root   *thing
	open   [8]*hand
	known  map[api.ID]bool // fetched by calls ahead
	wanted []api.ID        // to be fetched by this call, in that order
}

// call is one of the calls of a workspace; n is its flags, or its other number.
type call struct {
	name, path, to, data string
	file, n              int
}

func at(name, path string) call            { return call{name: name, path: path} }
func rename(from, to string) call          { return call{name: "Rename", path: from, to: to} }
func opening(path string, flags int) call  { return call{name: "Open", path: path, n: flags} }
func reading(file, n int) call             { return call{name: "Read", file: file, n: n} }
func writing(file int, data string) call   { return call{name: "Write", file: file, data: data} }
func onFile(name string, file, n int) call { return call{name: name, file: file, n: n} }

// answer is what a call answers, in one value that can be compared.
type answer struct {
	info    api.Info
	names   string
	file    int
	data    string
	changes string
	id      api.ID
	e       api.Errno
}

func perform(w *Workspace, c call) answer {
	var a answer
	switch c.name {
	case "Stat":
		a.info, a.e = w.Stat(c.path)
	case "List":
		var l []string
		l, a.e = w.List(c.path)
		a.names = strings.Join(l, "/")
	case "Mkdir":
		a.e = w.Mkdir(c.path)
	case "Remove":
		a.e = w.Remove(c.path)
	case "Rename":
		a.e = w.Rename(c.path, c.to)
	case "Open":
		a.file, a.e = w.Open(c.path, c.n)
	case "Read":
		a.data, a.e = w.Read(c.file, c.n)
	case "Write":
		a.e = w.Write(c.file, c.data)
	case "Seek":
		a.e = w.Seek(c.file, c.n)
	case "Resize":
		a.e = w.Resize(c.file, c.n)
	case "Close":
		a.e = w.Close(c.file)
	case "Status":
		var l []api.Change
		l, a.e = w.Status()
		a.changes = tell(l)
	case "Commit":
		a.id, a.e = w.Commit()
	}
	return a
}

// performAll wants calls to be done without an error.
func performAll(t *testing.T, w *Workspace, calls []call) {
	t.Helper()
	for _, c := range calls {
		if got := perform(w, c); got.e != api.OK {
			t.Errorf("%+v, of %+v, = %+v", c, calls, got)
		}
	}
}

// expect tells what the call must answer, and what is to be done to the model if it does so.
func (m *model) expect(c call) (answer, func()) {
	m.wanted = nil
	var a answer
	do := func() {}
	path, ok := split(c.path)
	to, fine := split(c.to)
	switch {
	case !ok || !fine:
		a.e = api.ErrPath
	case c.name == "Stat":
		a = m.stat(path)
	case c.name == "List":
		a = m.list(path)
	case c.name == "Mkdir":
		a.e, do = m.mkdir(path)
	case c.name == "Remove":
		a.e, do = m.remove(path)
	case c.name == "Rename":
		a.e, do = m.rename(path, to)
	case c.name == "Open":
		a, do = m.opened(path, c.n)
	case c.name == "Status":
		a = m.status()
	case c.name == "Commit":
		a.e = m.commit()
	case c.file < 0 || c.file > 7 || m.open[c.file] == nil:
		a.e = api.ErrFile
	case c.name == "Read":
		a, do = m.read(m.open[c.file], c.n)
	case c.name == "Write":
		a.e, do = m.write(m.open[c.file], c.data)
	case c.name == "Seek":
		a.e, do = m.seek(m.open[c.file], c.n)
	case c.name == "Resize":
		a.e, do = m.resize(m.open[c.file], c.n)
	case c.name == "Close":
		do = func() { m.open[c.file] = nil }
	}
	return a, do
}

func split(path string) ([]string, bool) {
	if path == "" {
		return nil, true
	}
	l := strings.Split(path, "/")
	for _, name := range l {
		if name == "" || name == "." || name == ".." || len(name) > 12 || strings.Contains(name, "\x00") {
			return nil, false
		}
	}
	return l, len(l) <= 5
}

// want notes that something of an object is wanted.
func (m *model) want(x *thing) {
	if x.id != 0 && !m.known[x.id] && !slices.Contains(m.wanted, x.id) {
		m.wanted = append(m.wanted, x.id)
	}
}

func (m *model) way(l []string) (*thing, api.Errno) {
	here := m.root
	for _, name := range l {
		if here.inner == nil {
			return nil, api.ErrNotDir
		}
		m.want(here)
		if here = here.inner[name]; here == nil {
			return nil, api.ErrNone
		}
	}
	return here, api.OK
}

// parent goes the way to the parent of a path, which is to be a directory.
func (m *model) parent(l []string) (*thing, api.Errno) {
	x, e := m.way(l[:len(l)-1])
	if e != api.OK {
		return nil, e
	}
	if x.inner == nil {
		return nil, api.ErrNotDir
	}
	m.want(x)
	return x, api.OK
}

func (m *model) stat(l []string) answer {
	x, e := m.way(l)
	if e != api.OK {
		return answer{e: e}
	}
	m.want(x)
	return answer{info: api.Info{Kind: x.kind(), Size: len(x.data) + len(x.inner)}}
}

func (m *model) list(l []string) answer {
	x, e := m.way(l)
	if e == api.OK && x.inner == nil {
		e = api.ErrNotDir
	}
	if e != api.OK {
		return answer{e: e}
	}
	m.want(x)
	return answer{names: strings.Join(x.names(), "/")}
}

func (m *model) mkdir(l []string) (api.Errno, func()) {
	if len(l) == 0 {
		return api.ErrExists, nil
	}
	parent, e := m.parent(l)
	if e != api.OK {
		return e, nil
	}
	name := l[len(l)-1]
	if parent.inner[name] != nil {
		return api.ErrExists, nil
	}
	if len(parent.inner) == 16 {
		return api.ErrFull, nil
	}
	return api.OK, func() { parent.inner[name] = &thing{inner: map[string]*thing{}} }
}

func (m *model) remove(l []string) (api.Errno, func()) {
	if len(l) == 0 {
		return api.ErrInside, nil
	}
	x, e := m.way(l)
	if e != api.OK {
		return e, nil
	}
	if x.inner != nil {
		m.want(x)
	}
	if len(x.inner) > 0 {
		return api.ErrNotEmpty, nil
	}
	parent, _ := m.parent(l)
	return api.OK, func() { delete(parent.inner, l[len(l)-1]) }
}

func (m *model) rename(from, to []string) (api.Errno, func()) {
	if len(from) == 0 || len(to) == 0 {
		return api.ErrInside, nil
	}
	x, e := m.way(from)
	if e != api.OK {
		return e, nil
	}
	if len(to) > len(from) && slices.Equal(to[:len(from)], from) {
		return api.ErrInside, nil
	}
	parent, e := m.parent(to)
	if e != api.OK {
		return e, nil
	}
	old, _ := m.parent(from)
	y := parent.inner[to[len(to)-1]]
	if y == x {
		return api.OK, func() {}
	}
	if y != nil && y.inner != nil && x.inner == nil {
		return api.ErrDir, nil
	}
	if y != nil && y.inner == nil && x.inner != nil {
		return api.ErrNotDir, nil
	}
	if y != nil && y.inner != nil {
		m.want(y)
		if len(y.inner) > 0 {
			return api.ErrNotEmpty, nil
		}
	}
	if y == nil && old != parent && len(parent.inner) == 16 || len(to)+x.height() > 5 {
		return api.ErrFull, nil
	}
	return api.OK, func() {
		delete(old.inner, from[len(from)-1])
		parent.inner[to[len(to)-1]] = x
	}
}
