package objects

import (
	"slices"

	"canopy/api"
)

// Draft holds objects that may come into a pool, all of them or none. It stands only as long as nothing else comes into the pool:
// its objects have the IDs already that they will have there, as IDs are given one behind the other.
type Draft struct {
	pool  *Pool
	all   []object
	files map[string]api.ID
	dirs  map[listing]api.ID
}

// NewDraft makes a draft without objects.
func (p *Pool) NewDraft() *Draft {
	return &Draft{pool: p, files: map[string]api.ID{}, dirs: map[listing]api.ID{}}
}

// File answers the object of a file's bytes: that of the pool, if it is there, else one of the draft.
func (d *Draft) File(data string) api.ID {
	if id, ok := d.pool.files[data]; ok {
		return id
	}
	id, ok := d.files[data]
	if !ok {
		id = d.add(object{kind: api.File, data: data})
		d.files[data] = id
	}
	return id
}

// Dir answers the object of a directory's entries, which are given by rising names: that of the pool, if it is there, else one of the draft.
func (d *Draft) Dir(entries []api.Entry) api.ID {
	key := listingOf(entries)
	if id, ok := d.pool.dirs[key]; ok {
		return id
	}
	id, ok := d.dirs[key]
	if !ok {
		id = d.add(object{kind: api.Dir, entries: slices.Clone(entries)})
		d.dirs[key] = id
	}
	return id
}

// Keep puts the draft's objects into the pool, if there is room for all of them.
func (d *Draft) Keep() api.Errno {
	if d.pool.Count()+len(d.all) > api.MaxObjects {
		return api.ErrFull
	}
	for _, o := range d.all {
		if e := d.pool.put(o); e != api.OK {
			return e
		}
	}
	return api.OK
}

// put puts an object of a draft, which has all but its height.
func (p *Pool) put(o object) api.Errno {
	var e api.Errno
	if o.kind == api.File {
		_, e = p.PutFile(o.data)
	} else {
		_, e = p.PutDir(o.entries)
	}
	return e
}

// add takes in an object that is neither in the pool nor in the draft. What a directory names was there ahead of it, and so it will be when they come into the pool.
func (d *Draft) add(o object) api.ID {
	d.all = append(d.all, o)
	return api.ID(d.pool.Count() + len(d.all))
}
