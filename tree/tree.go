// Package tree: what stands in a workspace, over what lies in its store.
package tree

import (
	"slices"
	"strings"

	"canopy/api"
	"canopy/files"
	"canopy/objects"
	"canopy/paths"
	"canopy/shelf"
)

// Tree is a stored directory, with what has been changed in it since.
type Tree struct {
	pool  *objects.Pool
	files *shelf.Shelf[string]
	dirs  *shelf.Shelf[[]api.Entry]

	base api.ID // the object of the directory that the tree was at first
	root api.Entry
	// What is the tree's own is named by the ID 0, and all directories on the way to it are the tree's own, too:
	// the files that have been opened or made, and the directories in which something has changed (their entries by rising names).
	ownFiles map[paths.Path]*files.File
	ownDirs  map[paths.Path][]api.Entry
}

// New makes the tree of a stored directory.
func New(pool *objects.Pool, root api.ID) *Tree {
	return &Tree{
		pool:     pool,
		files:    shelf.New(pool.FetchFile),
		dirs:     shelf.New(pool.FetchDir),
		base:     root,
		root:     api.Entry{Kind: api.Dir, ID: root},
		ownFiles: map[paths.Path]*files.File{},
		ownDirs:  map[paths.Path][]api.Entry{},
	}
}

// Stat tells what is at a path.
func (t *Tree) Stat(p paths.Path) (api.Info, api.Errno) {
	here, e := t.find(p)
	if e != api.OK {
		return api.Info{}, e
	}
	size, e := t.size(p, here)
	if e != api.OK {
		return api.Info{}, e
	}
	return api.Info{Kind: here.Kind, Size: size}, api.OK
}

// List tells the names in the directory at a path.
func (t *Tree) List(p paths.Path) ([]string, api.Errno) {
	entries, e := t.look(p)
	if e != api.OK {
		return nil, e
	}
	answer := make([]string, len(entries))
	for i, entry := range entries {
		answer[i] = entry.Name
	}
	return answer, api.OK
}

// find goes the way to a path, and answers what is there.
func (t *Tree) find(p paths.Path) (api.Entry, api.Errno) {
	if p == paths.Root() {
		return t.root, api.OK
	}
	entries, e := t.look(p.Parent())
	if e != api.OK {
		return api.Entry{}, e
	}
	i, there := search(entries, p.Name())
	if !there {
		return api.Entry{}, api.ErrNone
	}
	return entries[i], api.OK
}

// look goes the way to a path, and answers what is in the directory there.
func (t *Tree) look(p paths.Path) ([]api.Entry, api.Errno) {
	here, e := t.find(p)
	if e != api.OK {
		return nil, e
	}
	return t.entries(p, here)
}

// entries answers what is in the directory that is at a path.
func (t *Tree) entries(p paths.Path, here api.Entry) ([]api.Entry, api.Errno) {
	if here.Kind != api.Dir {
		return nil, api.ErrNotDir
	}
	if here.ID == 0 {
		return t.ownDirs[p], api.OK
	}
	return t.dirs.Get(here.ID)
}

// size tells how much is in what is at a path: bytes, or names.
func (t *Tree) size(p paths.Path, here api.Entry) (int, api.Errno) {
	if here.Kind == api.File {
		data, e := t.bytes(p, here)
		return len(data), e
	}
	entries, e := t.entries(p, here)
	return len(entries), e
}

// bytes answers what is in the file that is at a path.
func (t *Tree) bytes(p paths.Path, here api.Entry) (string, api.Errno) {
	if here.ID == 0 {
		return t.ownFiles[p].Bytes()
	}
	return t.files.Get(here.ID)
}

// search tells where a name stands among entries, or where it would.
func search(entries []api.Entry, name string) (int, bool) {
	return slices.BinarySearchFunc(entries, name, func(entry api.Entry, name string) int {
		return strings.Compare(entry.Name, name)
	})
}
