package objects

import (
	"slices"
	"strings"

	"canopy/api"
	"canopy/names"
)

// listing is a directory's entries as one value, so that it can be the key of a map.
// The places behind the last entry stay empty: no name is empty, so no two directories have the same listing.
type listing [api.MaxEntries]api.Entry

func listingOf(entries []api.Entry) listing {
	var key listing
	copy(key[:], entries)
	return key
}

// arrange answers new entries by rising names, if those of l can be the names of a directory.
func arrange(l []api.Entry) ([]api.Entry, api.Errno) {
	for _, entry := range l {
		if !names.Valid(entry.Name) {
			return nil, api.ErrPath
		}
	}
	entries := slices.Clone(l)
	slices.SortFunc(entries, byName)
	for i := 1; i < len(entries); i++ {
		if entries[i].Name == entries[i-1].Name {
			return nil, api.ErrExists
		}
	}
	if len(entries) > api.MaxEntries {
		return nil, api.ErrFull
	}
	for i := range entries {
		// A name may be a piece of a great text, which is not to be held with it.
		entries[i].Name = strings.Clone(entries[i].Name)
	}
	return entries, api.OK
}

func byName(a, b api.Entry) int { return strings.Compare(a.Name, b.Name) }
