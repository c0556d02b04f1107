package canopy

import (
	"strconv"
	"testing"

	"canopy/api"
)

func putFile(t *testing.T, s *Store, data string) api.ID {
	t.Helper()
	id, e := s.PutFile(data)
	if e != api.OK || id < 1 {
		t.Fatalf("PutFile(%q) = %d, %d", data, id, e)
	}
	return id
}

func putDir(t *testing.T, s *Store, l ...api.Entry) api.ID {
	t.Helper()
	id, e := s.PutDir(l)
	if e != api.OK || id < 1 {
		t.Fatalf("PutDir(%v) = %d, %d", l, id, e)
	}
	return id
}

func getDir(t *testing.T, s *Store, id api.ID) []api.Entry {
	t.Helper()
	l, e := s.GetDir(id)
	if e != api.OK {
		t.Fatalf("GetDir(%d) = %v, %d", id, l, e)
	}
	return l
}

// refuseDir wants an error of PutDir, nothing beside it, and no object more.
func refuseDir(t *testing.T, s *Store, want api.Errno, l ...api.Entry) {
	t.Helper()
	n := s.Objects()
	if id, e := s.PutDir(l); id != 0 || e != want || s.Objects() != n {
		t.Errorf("PutDir(%v) = %d, %d, want error %d; %d objects, were %d", l, id, e, want, s.Objects(), n)
	}
}

func file(name string, id api.ID) api.Entry { return api.Entry{Name: name, Kind: api.File, ID: id} }

func dir(name string, id api.ID) api.Entry { return api.Entry{Name: name, Kind: api.Dir, ID: id} }

// numbered makes n entries of one file, under names of their own.
func numbered(n int, id api.ID) []api.Entry {
	var l []api.Entry
	for i := range n {
		l = append(l, file("n"+strconv.Itoa(i), id))
	}
	return l
}

// nest puts directories one around the other, n of them, the innermost around the given entries.
func nest(t *testing.T, s *Store, n int, l ...api.Entry) api.ID {
	t.Helper()
	id := putDir(t, s, l...)
	for range n - 1 {
		id = putDir(t, s, dir("in", id))
	}
	return id
}

// fill puts files until the store has n objects.
func fill(t *testing.T, s *Store, n int) {
	t.Helper()
	for i := 0; s.Objects() < n; i++ {
		putFile(t, s, "filler "+strconv.Itoa(i))
	}
}
