package tree

import (
	"canopy/api"
	"canopy/files"
	"canopy/paths"
)

// Open answers the file at a path, made or cut to nothing where the flags ask for it.
func (t *Tree) Open(p paths.Path, flags int) (*files.File, api.Errno) {
	if p == paths.Root() {
		return nil, api.ErrDir
	}
	beside, e := t.look(p.Parent())
	if e != api.OK {
		return nil, e
	}
	i, there := search(beside, p.Name())
	if there && beside[i].Kind == api.Dir {
		return nil, api.ErrDir
	}
	// Exclusive asks for all that Create does, and that there be nothing yet.
	switch {
	case flags&api.Exclusive != 0:
		if there {
			return nil, api.ErrExists
		}
		fallthrough
	case flags&api.Create != 0:
		if !there {
			return t.create(p, len(beside))
		}
	case !there:
		return nil, api.ErrNone
	}
	file := t.hold(p)
	if flags&api.Truncate != 0 {
		file.Clear()
	}
	return file, api.OK
}

// create lets an empty file be at a path at which there is nothing, if there is room beside so many.
func (t *Tree) create(p paths.Path, beside int) (*files.File, api.Errno) {
	if beside >= api.MaxEntries {
		return nil, api.ErrFull
	}
	t.put(p, api.Entry{Kind: api.File})
	file := files.Empty()
	t.ownFiles[p] = file
	return file, api.OK
}

// hold makes the file at a path the tree's own, as what is open must stay the same file wherever it comes to stand, and several that have it open must share it.
// Its bytes may stay where they are stored.
func (t *Tree) hold(p paths.Path) *files.File {
	if file, ok := t.ownFiles[p]; ok {
		return file
	}
	beside := t.claim(p.Parent())
	i, _ := search(beside, p.Name())
	file := files.Stored(t.files, beside[i].ID)
	beside[i].ID = 0
	t.ownFiles[p] = file
	return file
}
