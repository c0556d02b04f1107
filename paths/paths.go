// Package paths: paths as values that are compared, and that are keys of maps.
package paths

import (
	"strings"

	"canopy/api"
	"canopy/names"
)

// Path is the names of a path, one behind the other; the root has none.
// The places behind the last name stay empty: no name is empty, so every path is one value alone.
type Path [api.MaxDepth]string

// Root is the path without names.
func Root() Path { return Path{} }

// Parse answers the path that a text tells.
func Parse(text string) (Path, api.Errno) {
	var p Path
	rest, more := text, text != ""
	for i := 0; more; i++ {
		if i == len(p) {
			return Root(), api.ErrPath
		}
		p[i], rest, more = strings.Cut(rest, "/")
		if !names.Valid(p[i]) {
			return Root(), api.ErrPath
		}
	}
	for i := range p {
		// A path may be a piece of a great text, which is not to be held with it.
		p[i] = strings.Clone(p[i])
	}
	return p, api.OK
}

// Text answers the text that tells the path.
func (p Path) Text() string { return strings.Join(p[:p.Depth()], "/") }

// Depth tells how deep the path leads: how many names it has.
func (p Path) Depth() int {
	for i, name := range p {
		if name == "" {
			return i
		}
	}
	return len(p)
}

// Parent answers the path without its last name; that of the root is the root.
func (p Path) Parent() Path { return p.head(p.Depth() - 1) }

// Name answers the last name; the root has none.
func (p Path) Name() string {
	if p == Root() {
		return ""
	}
	return p[p.Depth()-1]
}

// Child answers the path with one more name; it is asked only where there is room for one.
func (p Path) Child(name string) Path {
	p[p.Depth()] = name
	return p
}

// Below tells whether the path leads to something inside of what q leads to.
func (p Path) Below(q Path) bool { return p != q && p.head(q.Depth()) == q }

// Moved answers where the path leads when what is at from has come to stand at to; it is asked only of from and of paths below it.
func (p Path) Moved(from, to Path) Path {
	copy(to[to.Depth():], p[from.Depth():])
	return to
}

// head answers the path of the first n names.
func (p Path) head(n int) Path {
	clear(p[max(n, 0):])
	return p
}
