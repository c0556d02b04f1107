package canopy

import (
	"slices"
	"strconv"
	"testing"

	"canopy/api"
)

func putFile(t *testing.T, s *Store, data string) api.ID {
	t.Helper()
	id, e := s.PutFile(data)
	if e != api.OK || id < 1 {
		t.Fatalf("PutFile(%q) = %d, %d", data, id, e)
	}
	return id
}

func putDir(t *testing.T, s *Store, l ...api.Entry) api.ID {
	t.Helper()
	id, e := s.PutDir(l)
	if e != api.OK || id < 1 {
		t.Fatalf("PutDir(%v) = %d, %d", l, id, e)
	}
	return id
}

func getDir(t *testing.T, s *Store, id api.ID) []api.Entry {
	t.Helper()
	l, e := s.GetDir(id)
	if e != api.OK {
		t.Fatalf("GetDir(%d) = %v, %d", id, l, e)
	}
	return l
}

// refuseDir wants an error of PutDir, nothing beside it, and no object more.
func refuseDir(t *testing.T, s *Store, want api.Errno, l ...api.Entry) {
	t.Helper()
	n := s.Objects()
	if id, e := s.PutDir(l); id != 0 || e != want || s.Objects() != n {
		t.Errorf("PutDir(%v) = %d, %d, want error %d; %d objects, were %d", l, id, e, want, s.Objects(), n)
	}
}

func file(name string, id api.ID) api.Entry { return api.Entry{Name: name, Kind: api.File, ID: id} }

func dir(name string, id api.ID) api.Entry { return api.Entry{Name: name, Kind: api.Dir, ID: id} }

// numbered makes n entries of one file, under names of their own.
func numbered(n int, id api.ID) []api.Entry {
	var l []api.Entry
	for i := range n {
		l = append(l, file("n"+strconv.Itoa(i), id))
	}
	return l
}

// nest puts directories one around the other, n of them, the innermost around the given entries.
func nest(t *testing.T, s *Store, n int, l ...api.Entry) api.ID {
	t.Helper()
	id := putDir(t, s, l...)
	for range n - 1 {
		id = putDir(t, s, dir("in", id))
	}
	return id
}

// fill puts files until the store has n objects.
func fill(t *testing.T, s *Store, n int) {
	t.Helper()
	for i := 0; s.Objects() < n; i++ {
		putFile(t, s, "filler "+strconv.Itoa(i))
	}
}

func checkout(t *testing.T, s *Store, root api.ID) *Workspace {
	t.Helper()
	w, e := s.Checkout(root)
	if e != api.OK || w == nil {
		t.Fatalf("Checkout(%d) = %v, %d", root, w, e)
	}
	return w
}

// document makes the store of the document's examples, and answers its objects A, D and R.
func document(t *testing.T) (s *Store, a, d, r api.ID) {
	t.Helper()
	s = NewStore()
	a = putFile(t, s, "abc")
	d = putDir(t, s, file("x", a))
	return s, a, d, putDir(t, s, file("a", a), dir("d", d))
}

func wantStat(t *testing.T, w *Workspace, path string, kind, size int) {
	t.Helper()
	if info, e := w.Stat(path); info != (api.Info{Kind: kind, Size: size}) || e != api.OK {
		t.Errorf("Stat(%q) = %+v, %d, want %d, %d", path, info, e, kind, size)
	}
}

func wantList(t *testing.T, w *Workspace, path string, names ...string) {
	t.Helper()
	if l, e := w.List(path); !slices.Equal(l, names) || e != api.OK {
		t.Errorf("List(%q) = %q, %d, want %q", path, l, e, names)
	}
}

// refuseStat and refuseList want an error, and nothing beside it.
func refuseStat(t *testing.T, w *Workspace, path string, want api.Errno) {
	t.Helper()
	if info, e := w.Stat(path); info != (api.Info{}) || e != want {
		t.Errorf("Stat(%q) = %+v, %d, want error %d", path, info, e, want)
	}
}

func refuseList(t *testing.T, w *Workspace, path string, want api.Errno) {
	t.Helper()
	if l, e := w.List(path); len(l) != 0 || e != want {
		t.Errorf("List(%q) = %q, %d, want error %d", path, l, e, want)
	}
}

func wantFetched(t *testing.T, s *Store, ids ...api.ID) {
	t.Helper()
	if got := s.Fetched(); !slices.Equal(got, ids) {
		t.Errorf("Fetched() = %v, want %v", got, ids)
	}
}

// want wants an error, or none.
func want(t *testing.T, what string, e, want api.Errno) {
	t.Helper()
	if e != want {
		t.Errorf("%s = %d, want %d", what, e, want)
	}
}

const both = api.Read + api.Write

func wantOpen(t *testing.T, w *Workspace, path string, flags, number int) {
	t.Helper()
	if n, e := w.Open(path, flags); n != number || e != api.OK {
		t.Errorf("Open(%q, %d) = %d, %d, want %d", path, flags, n, e, number)
	}
}

func wantRead(t *testing.T, w *Workspace, file, n int, data string) {
	t.Helper()
	if got, e := w.Read(file, n); got != data || e != api.OK {
		t.Errorf("Read(%d, %d) = %q, %d, want %q", file, n, got, e, data)
	}
}

// wantBytes wants a file to have these bytes, by what has it open.
func wantBytes(t *testing.T, w *Workspace, file int, data string) {
	t.Helper()
	want(t, "Seek", w.Seek(file, 0), api.OK)
	wantRead(t, w, file, 300, data)
}

// wantFile wants a file with these bytes to be at a path.
func wantFile(t *testing.T, w *Workspace, path string, data string) {
	t.Helper()
	wantStat(t, w, path, api.File, len(data))
	number, e := w.Open(path, api.Read)
	want(t, "Open of "+path, e, api.OK)
	wantRead(t, w, number, 300, data)
	want(t, "Close", w.Close(number), api.OK)
}

// putAt lets a file with these bytes be at a path, and the directories on the way to it.
func putAt(t *testing.T, w *Workspace, path, data string) {
	t.Helper()
	for i := range path {
		if path[i] == '/' {
			w.Mkdir(path[:i])
		}
	}
	number, e := w.Open(path, api.Write+api.Create+api.Truncate)
	want(t, "Open of "+path, e, api.OK)
	want(t, "Write", w.Write(number, data), api.OK)
	want(t, "Close", w.Close(number), api.OK)
}

// changes makes a list of changes of paths behind a sign: + for Added, * for Changed, - for Deleted.
func changes(signed ...string) []api.Change {
	var l []api.Change
	for _, path := range signed {
		what := map[byte]int{'+': 1, '*': 2, '-': 3}[path[0]]
		l = append(l, api.Change{Path: path[1:], What: what})
	}
	return l
}

func wantStatus(t *testing.T, w *Workspace, l ...api.Change) {
	t.Helper()
	if got, e := w.Status(); !slices.Equal(got, l) || e != api.OK {
		t.Errorf("Status() = %v, %d, want %v", got, e, l)
	}
}

func wantCommit(t *testing.T, w *Workspace) api.ID {
	t.Helper()
	id, e := w.Commit()
	if id < 1 || e != api.OK {
		t.Errorf("Commit() = %d, %d", id, e)
	}
	return id
}

// refuseStatus and refuseCommit want an error, and nothing beside it.
func refuseStatus(t *testing.T, w *Workspace, want api.Errno) {
	t.Helper()
	if l, e := w.Status(); len(l) != 0 || e != want {
		t.Errorf("Status() = %v, %d, want error %d", l, e, want)
	}
}

func refuseCommit(t *testing.T, w *Workspace, want api.Errno) {
	t.Helper()
	if id, e := w.Commit(); id != 0 || e != want {
		t.Errorf("Commit() = %d, %d, want error %d", id, e, want)
	}
}

// refuseOpen and refuseRead want an error, and nothing beside it.
func refuseOpen(t *testing.T, w *Workspace, path string, flags int, want api.Errno) {
	t.Helper()
	if n, e := w.Open(path, flags); n != 0 || e != want {
		t.Errorf("Open(%q, %d) = %d, %d, want error %d", path, flags, n, e, want)
	}
}

func refuseRead(t *testing.T, w *Workspace, file, n int, want api.Errno) {
	t.Helper()
	if data, e := w.Read(file, n); data != "" || e != want {
		t.Errorf("Read(%d, %d) = %q, %d, want error %d", file, n, data, e, want)
	}
}
