// Package objects: the objects of one store, each of them held once.
package objects

import (
	"strings"

	"canopy/api"
)

// Pool holds objects; the object of the ID n is the n-th that came.
type Pool struct {
	all     []object
	files   map[string]api.ID
	dirs    map[listing]api.ID
	fetched []api.ID
	broken  bool // the next fetch fails
}

// object is a file's bytes, or a directory's entries by rising names.
type object struct {
	kind    int
	data    string
	entries []api.Entry
	height  int // how many stand one below the other in it: kept, since no object ever changes
}

// NewPool makes a pool without objects.
func NewPool() *Pool {
	return &Pool{files: map[string]api.ID{}, dirs: map[listing]api.ID{}}
}

// Count tells how many objects there are.
func (p *Pool) Count() int { return len(p.all) }

// PutFile answers the object of these bytes, a new one if there was none.
func (p *Pool) PutFile(data string) (api.ID, api.Errno) {
	if len(data) > api.MaxSize {
		return 0, api.ErrFull
	}
	if id, ok := p.files[data]; ok {
		return id, api.OK
	}
	// The bytes may be a piece of a great text, which is not to be held with them.
	data = strings.Clone(data)
	id, e := p.add(object{kind: api.File, data: data})
	if e == api.OK {
		p.files[data] = id
	}
	return id, e
}

// PutDir answers the object of these entries, a new one if there was none.
func (p *Pool) PutDir(l []api.Entry) (api.ID, api.Errno) {
	entries, e := arrange(l)
	if e != api.OK {
		return 0, e
	}
	height, e := p.measure(entries)
	if e != api.OK {
		return 0, e
	}
	key := listingOf(entries)
	if id, ok := p.dirs[key]; ok {
		return id, api.OK
	}
	id, e := p.add(object{kind: api.Dir, entries: entries, height: height})
	if e == api.OK {
		p.dirs[key] = id
	}
	return id, e
}

// File gives the bytes of a file.
func (p *Pool) File(id api.ID) (string, api.Errno) {
	if p.Kind(id) != api.File {
		return "", api.ErrObject
	}
	return p.at(id).data, api.OK
}

// Dir gives the entries of a directory, by rising names.
func (p *Pool) Dir(id api.ID) ([]api.Entry, api.Errno) {
	if p.Kind(id) != api.Dir {
		return nil, api.ErrObject
	}
	entries := p.at(id).entries
	answer := make([]api.Entry, len(entries))
	copy(answer, entries)
	return answer, api.OK
}

// Kind tells of what kind an object is: 0, where there is none.
func (p *Pool) Kind(id api.ID) int {
	if id < 1 || id > api.ID(len(p.all)) {
		return 0
	}
	return p.at(id).kind
}

// Height tells how many stand one below the other in an object that is there.
func (p *Pool) Height(id api.ID) int { return p.at(id).height }

// measure tells how many stand one below the other in a directory of these entries.
func (p *Pool) measure(entries []api.Entry) (int, api.Errno) {
	height := 0
	for _, entry := range entries {
		kind := p.Kind(entry.ID)
		if kind == 0 || kind != entry.Kind {
			return 0, api.ErrObject
		}
		height = max(height, 1+p.Height(entry.ID))
	}
	if height > api.MaxDepth {
		return 0, api.ErrFull
	}
	return height, api.OK
}

// add takes in an object that is not there yet.
func (p *Pool) add(o object) (api.ID, api.Errno) {
	if len(p.all) >= api.MaxObjects {
		return 0, api.ErrFull
	}
	p.all = append(p.all, o)
	return api.ID(len(p.all)), api.OK
}

// at is asked only for objects that are there.
func (p *Pool) at(id api.ID) object { return p.all[id-1] }
