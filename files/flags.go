package files

import "canopy/api"

const allFlags = api.Read | api.Write | api.Create | api.Exclusive | api.Truncate | api.Append

// Valid tells whether a number is flags with which a file can be opened.
func Valid(flags int) bool {
	if flags&^allFlags != 0 || flags&(api.Read|api.Write) == 0 {
		return false
	}
	missing := needed(flags) &^ flags
	return missing == 0
}

// needed tells which flags must stand beside these.
func needed(flags int) int {
	all := 0
	switch {
	case flags&api.Exclusive != 0:
		all |= api.Create
		fallthrough
	case flags&(api.Create|api.Truncate|api.Append) != 0:
		all |= api.Write
	}
	return all
}
