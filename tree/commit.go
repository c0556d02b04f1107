package tree

import (
	"slices"

	"canopy/api"
	"canopy/objects"
	"canopy/paths"
)

// Commit puts the tree into the store, and answers its root's object.
// The tree stays its own where it is so: what it has needs no fetch, though it lies in the store now.
func (t *Tree) Commit() (api.ID, api.Errno) {
	o := t.outline()
	root := o.object(paths.Root(), t.root)
	if e := o.draft.Keep(); e != api.OK {
		return 0, e
	}
	return root, api.OK
}

// outline tells which objects the things of a tree are, or would be if the tree were in the store. Nothing is fetched for that.
type outline struct {
	tree  *Tree
	draft *objects.Draft
	own   map[paths.Path]api.ID // what has been worked out of the tree's own things
}

// outline makes an outline in which nothing has been worked out; it holds until something changes.
func (t *Tree) outline() outline {
	return outline{tree: t, draft: t.pool.NewDraft(), own: map[paths.Path]api.ID{}}
}

// object answers the object of what is at a path.
func (o outline) object(p paths.Path, here api.Entry) api.ID {
	if here.ID != 0 {
		return here.ID
	}
	id, ok := o.own[p]
	if !ok {
		id = o.work(p, here.Kind)
		o.own[p] = id
	}
	return id
}

// work answers the object of what is the tree's own.
func (o outline) work(p paths.Path, kind int) api.ID {
	if kind == api.File {
		return o.file(p)
	}
	entries := slices.Clone(o.tree.ownDirs[p])
	for i, entry := range entries {
		entries[i].ID = o.object(p.Child(entry.Name), entry)
	}
	return o.draft.Dir(entries)
}

// file answers the object of a file that is the tree's own, though its bytes may be stored ones still.
func (o outline) file(p paths.Path) api.ID {
	file := o.tree.ownFiles[p]
	if id := file.Object(); id != 0 {
		return id
	}
	// Bytes that are the file's own are not fetched, so that nothing can fail.
	data, _ := file.Bytes()
	return o.draft.File(data)
}
