package tree

import (
	"slices"
	"strings"

	"canopy/api"
	"canopy/paths"
)

// Status tells what has become of the files since the tree was its base, by rising paths.
func (t *Tree) Status() ([]api.Change, api.Errno) {
	s := survey{outline: t.outline()}
	base := api.Entry{Kind: api.Dir, ID: t.base}
	if e := s.compare(paths.Root(), t.root, base); e != api.OK {
		return nil, e
	}
	// The way through the directories is not the order of paths: a-b is less than a/b.
	slices.SortFunc(s.found, byPath)
	return s.found, api.OK
}

// survey is what has been found of a tree and its base, side by side.
type survey struct {
	outline
	found []api.Change
}

// compare finds what has become of what is or was at a path, and below it; of what is not there the entry is empty.
// Where the same object stands in both nothing of it is wanted, and other objects have other bytes: no file is ever fetched.
func (s *survey) compare(p paths.Path, now, was api.Entry) api.Errno {
	if now.Kind == was.Kind && s.object(p, now) == was.ID {
		return api.OK
	}
	s.note(p, now.Kind == api.File, was.Kind == api.File)
	inside, e := s.inside(p, now)
	if e != api.OK {
		return e
	}
	before, e := s.inside(p, was)
	if e != api.OK {
		return e
	}
	for _, entry := range inside {
		if e := s.compare(p.Child(entry.Name), entry, pick(before, entry.Name)); e != api.OK {
			return e
		}
	}
	for _, entry := range before {
		if _, there := search(inside, entry.Name); there {
			continue
		}
		if e := s.compare(p.Child(entry.Name), api.Entry{}, entry); e != api.OK {
			return e
		}
	}
	return api.OK
}

// note takes down what has become of a path by whether a file is there, and was there; if both, it was another one.
func (s *survey) note(p paths.Path, is, was bool) {
	what := 0
	switch {
	case is && was:
		what = api.Changed
	case is:
		what = api.Added
	case was:
		what = api.Deleted
	default:
		return
	}
	s.found = append(s.found, api.Change{Path: p.Text(), What: what})
}

// inside answers what is in what is at a path: nothing, if that is no directory.
func (s *survey) inside(p paths.Path, here api.Entry) ([]api.Entry, api.Errno) {
	if here.Kind != api.Dir {
		return nil, api.OK
	}
	return s.tree.entries(p, here)
}

// pick answers what stands under a name, an empty entry if there is nothing.
func pick(entries []api.Entry, name string) api.Entry {
	i, there := search(entries, name)
	if !there {
		return api.Entry{}
	}
	return entries[i]
}

func byPath(a, b api.Change) int { return strings.Compare(a.Path, b.Path) }
