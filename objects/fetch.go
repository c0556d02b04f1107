package objects

import (
	"slices"

	"canopy/api"
)

// Break lets the next fetch fail. What is missing and what is found to be spoiled come to the same: nothing of it is taken.
func (p *Pool) Break(how int) api.Errno {
	if how != api.Missing && how != api.Spoiled {
		return api.ErrFlags
	}
	p.broken = true
	return api.OK
}

// Fetched tells what has been fetched, in that order.
func (p *Pool) Fetched() []api.ID { return slices.Clone(p.fetched) }

// FetchFile gives a workspace the bytes of a file.
func (p *Pool) FetchFile(id api.ID) (string, api.Errno) {
	if e := p.deliver(id); e != api.OK {
		return "", e
	}
	return p.File(id)
}

// FetchDir gives a workspace the entries of a directory, by rising names.
func (p *Pool) FetchDir(id api.ID) ([]api.Entry, api.Errno) {
	if e := p.deliver(id); e != api.OK {
		return nil, e
	}
	return p.Dir(id)
}

// deliver notes a fetch, unless it is the one that is to fail.
func (p *Pool) deliver(id api.ID) api.Errno {
	if p.broken {
		p.broken = false
		return api.ErrStore
	}
	p.fetched = append(p.fetched, id)
	return api.OK
}
