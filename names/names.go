// Package names: the names under which files and directories stand.
package names

import (
	"strings"

	"canopy/api"
)

// Valid tells whether a text is a name. Bytes count, not characters: a name need not be text that anyone can read.
func Valid(name string) bool {
	if len(name) < 1 || len(name) > api.MaxName {
		return false
	}
	if name == "." || name == ".." {
		return false
	}
	return strings.IndexByte(name, 0) < 0 && strings.IndexByte(name, '/') < 0
}
