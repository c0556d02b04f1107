// Package shelf: what is fetched when it is first wanted, and then kept.
package shelf

import "canopy/api"

// Shelf keeps what has been fetched of one kind: files' bytes, or directories' entries.
type Shelf[T any] struct {
	fetch func(api.ID) (T, api.Errno)
	kept  map[api.ID]T
}

// New makes a shelf with nothing on it, for objects that fetch gets.
func New[T any](fetch func(api.ID) (T, api.Errno)) *Shelf[T] {
	return &Shelf[T]{fetch: fetch, kept: map[api.ID]T{}}
}

// Get answers an object, and fetches it only the first time. A fetch that fails leaves nothing, so that the next Get tries again.
func (s *Shelf[T]) Get(id api.ID) (T, api.Errno) {
	if value, ok := s.kept[id]; ok {
		return value, api.OK
	}
	value, e := s.fetch(id)
	if e == api.OK {
		s.kept[id] = value
	}
	return value, e
}
