// Package canopy: workspaces over stored trees of files that are fetched only where they are touched: see DOC.md.
package canopy

import (
	"canopy/api"
	"canopy/files"
	"canopy/objects"
	"canopy/paths"
	"canopy/tree"
)

// Store holds objects; Workspace is a tree of files over one.
type Store struct {
	pool *objects.Pool
}

type Workspace struct {
	tree *tree.Tree
	open files.Table
}

// NewStore makes a store (P4).
func NewStore() *Store { return &Store{pool: objects.NewPool()} }

// PutFile puts a file's bytes into the store (P4).
func (s *Store) PutFile(data string) (api.ID, api.Errno) { return s.pool.PutFile(data) }

// PutDir puts a directory into the store (P4).
func (s *Store) PutDir(l []api.Entry) (api.ID, api.Errno) { return s.pool.PutDir(l) }

// GetFile gives the bytes of a file (P5).
func (s *Store) GetFile(id api.ID) (string, api.Errno) { return s.pool.File(id) }

// GetDir gives what is in a directory (P5).
func (s *Store) GetDir(id api.ID) ([]api.Entry, api.Errno) { return s.pool.Dir(id) }

// Objects tells how many objects there are (P4).
func (s *Store) Objects() int { return s.pool.Count() }

// Break lets the next fetch fail (P6).
func (s *Store) Break(how int) api.Errno { return s.pool.Break(how) }

// Fetched tells which objects workspaces have fetched (P6).
func (s *Store) Fetched() []api.ID { return s.pool.Fetched() }

// Checkout makes a workspace (P7).
func (s *Store) Checkout(root api.ID) (*Workspace, api.Errno) {
	if s.pool.Kind(root) != api.Dir {
		return nil, api.ErrObject
	}
	return &Workspace{tree: tree.New(s.pool, root)}, api.OK
}

// Stat tells what there is (P9).
func (w *Workspace) Stat(path string) (api.Info, api.Errno) {
	p, e := paths.Parse(path)
	if e != api.OK {
		return api.Info{}, e
	}
	return w.tree.Stat(p)
}

// List tells what is in a directory (P9).
func (w *Workspace) List(path string) ([]string, api.Errno) {
	p, e := paths.Parse(path)
	if e != api.OK {
		return nil, e
	}
	return w.tree.List(p)
}

// Mkdir makes a directory (P10).
func (w *Workspace) Mkdir(path string) api.Errno {
	p, e := paths.Parse(path)
	if e != api.OK {
		return e
	}
	return w.tree.Mkdir(p)
}

// Remove removes a file, or an empty directory (P10).
func (w *Workspace) Remove(path string) api.Errno {
	p, e := paths.Parse(path)
	if e != api.OK {
		return e
	}
	return w.tree.Remove(p)
}

// Rename gives something another path (P10).
func (w *Workspace) Rename(from string, to string) api.Errno {
	source, e := paths.Parse(from)
	if e != api.OK {
		return e
	}
	target, e := paths.Parse(to)
	if e != api.OK {
		return e
	}
	return w.tree.Rename(source, target)
}

// Open opens a file (P11).
func (w *Workspace) Open(path string, flags int) (int, api.Errno) {
	p, e := paths.Parse(path)
	if e != api.OK {
		return 0, e
	}
	if !files.Valid(flags) {
		return 0, api.ErrFlags
	}
	number, e := w.open.Free()
	if e != api.OK {
		return 0, e
	}
	file, e := w.tree.Open(p, flags)
	if e != api.OK {
		return 0, e
	}
	w.open.Put(number, file, flags)
	return number, api.OK
}

// Read reads from an open file (P12).
func (w *Workspace) Read(file int, n int) (string, api.Errno) {
	opened, e := w.open.At(file)
	if e != api.OK {
		return "", e
	}
	return opened.Read(n)
}

// Write writes into an open file (P12).
func (w *Workspace) Write(file int, data string) api.Errno {
	opened, e := w.open.At(file)
	if e != api.OK {
		return e
	}
	return opened.Write(data)
}

// Seek goes to a place in an open file (P12).
func (w *Workspace) Seek(file int, at int) api.Errno {
	opened, e := w.open.At(file)
	if e != api.OK {
		return e
	}
	return opened.Seek(at)
}

// Resize cuts an open file, or lengthens it (P12).
func (w *Workspace) Resize(file int, size int) api.Errno {
	opened, e := w.open.At(file)
	if e != api.OK {
		return e
	}
	return opened.Resize(size)
}

// Close closes an open file (P12).
func (w *Workspace) Close(file int) api.Errno { return w.open.Close(file) }

// Status tells what has become of the files (P13).
func (w *Workspace) Status() ([]api.Change, api.Errno) { return w.tree.Status() }

// Commit puts the tree into the store (P14).
func (w *Workspace) Commit() (api.ID, api.Errno) { return w.tree.Commit() }
