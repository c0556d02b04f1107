package tree

import (
	"slices"

	"canopy/api"
	"canopy/paths"
)

// Mkdir makes an empty directory.
func (t *Tree) Mkdir(p paths.Path) api.Errno {
	if p == paths.Root() {
		return api.ErrExists
	}
	beside, e := t.look(p.Parent())
	if e != api.OK {
		return e
	}
	if _, there := search(beside, p.Name()); there {
		return api.ErrExists
	}
	if len(beside) >= api.MaxEntries {
		return api.ErrFull
	}
	t.put(p, api.Entry{Kind: api.Dir})
	t.ownDirs[p] = nil
	return api.OK
}

// Remove takes away a file, or an empty directory.
func (t *Tree) Remove(p paths.Path) api.Errno {
	if p == paths.Root() {
		return api.ErrInside
	}
	here, e := t.find(p)
	if e != api.OK {
		return e
	}
	if e := t.vacant(p, here); e != api.OK {
		return e
	}
	t.take(p)
	t.forget(p)
	return api.OK
}

// Rename lets what is at one path be at another one, in place of what was there.
func (t *Tree) Rename(from, to paths.Path) api.Errno {
	if from == paths.Root() || to == paths.Root() {
		return api.ErrInside
	}
	moving, e := t.find(from)
	if e != api.OK {
		return e
	}
	if to.Below(from) {
		return api.ErrInside
	}
	beside, e := t.look(to.Parent())
	if e != api.OK || from == to {
		return e
	}
	if e := t.room(from, to, moving, beside); e != api.OK {
		return e
	}
	if to.Depth()+t.height(from, moving) > api.MaxDepth {
		return api.ErrFull
	}
	t.take(from)
	t.put(to, moving)
	carry(t.ownFiles, from, to)
	carry(t.ownDirs, from, to)
	return api.OK
}

// room tells why what is at from can't stand at to, beside what is there.
func (t *Tree) room(from, to paths.Path, moving api.Entry, beside []api.Entry) api.Errno {
	i, there := search(beside, to.Name())
	switch {
	case there:
		return t.yields(to, beside[i], moving)
	case len(beside) >= api.MaxEntries && from.Parent() != to.Parent():
		return api.ErrFull
	}
	return api.OK
}

// yields tells why what is at a path can't make room for what comes.
func (t *Tree) yields(p paths.Path, here, coming api.Entry) api.Errno {
	switch {
	case here.Kind == api.Dir && coming.Kind == api.File:
		return api.ErrDir
	case here.Kind == api.File && coming.Kind == api.Dir:
		return api.ErrNotDir
	}
	return t.vacant(p, here)
}

// vacant tells whether what is at a path can go without taking something along.
func (t *Tree) vacant(p paths.Path, here api.Entry) api.Errno {
	if here.Kind == api.File {
		return api.OK
	}
	entries, e := t.entries(p, here)
	if e == api.OK && len(entries) > 0 {
		return api.ErrNotEmpty
	}
	return e
}

// height tells how many stand one below the other in what is at a path. Of what is stored the store tells it: nothing is fetched for it.
func (t *Tree) height(p paths.Path, here api.Entry) int {
	if here.ID != 0 {
		return t.pool.Height(here.ID)
	}
	height := 0
	for _, entry := range t.ownDirs[p] {
		height = max(height, 1+t.height(p.Child(entry.Name), entry))
	}
	return height
}

// put lets something be at a path, in place of what was there.
func (t *Tree) put(p paths.Path, coming api.Entry) {
	coming.Name = p.Name()
	parent := p.Parent()
	entries := t.claim(parent)
	i, there := search(entries, coming.Name)
	if there {
		entries[i] = coming
		t.forget(p)
		return
	}
	t.ownDirs[parent] = slices.Insert(entries, i, coming)
}

// take lets nothing be at a path at which there is something.
func (t *Tree) take(p paths.Path) {
	parent := p.Parent()
	entries := t.claim(parent)
	i, _ := search(entries, p.Name())
	t.ownDirs[parent] = slices.Delete(entries, i, i+1)
}

// forget lets go of what was the tree's own at a path, where it is gone.
func (t *Tree) forget(p paths.Path) {
	delete(t.ownFiles, p)
	delete(t.ownDirs, p)
}

// carry lets what is the tree's own follow what was at from and is at to now.
func carry[T any](own map[paths.Path]T, from, to paths.Path) {
	var moving []paths.Path
	for p := range own {
		if p == from || p.Below(from) {
			moving = append(moving, p)
		}
	}
	for _, p := range moving {
		own[p.Moved(from, to)] = own[p]
		delete(own, p)
	}
}

// claim makes a directory the tree's own, and those on the way to it, and answers its entries.
// It is asked only when all of them have been looked into in this call, so that nothing is fetched and nothing can fail any more.
func (t *Tree) claim(p paths.Path) []api.Entry {
	if entries, ok := t.ownDirs[p]; ok {
		return entries
	}
	kept, _ := t.look(p)
	entries := slices.Clone(kept)
	t.ownDirs[p] = entries
	if p == paths.Root() {
		t.root.ID = 0
		return entries
	}
	beside := t.claim(p.Parent())
	i, _ := search(beside, p.Name())
	beside[i].ID = 0
	return entries
}
