package canopy

import (
	"slices"
	"strings"
	"testing"

	"canopy/api"
)

// The second of the document's examples.
func TestExample2(t *testing.T) {
	s, a, _, r := document(t)
	if w, e := s.Checkout(a); w != nil || e != api.ErrObject {
		t.Errorf("Checkout(A) = %v, %d", w, e)
	}
	w := checkout(t, s, r)
	wantFetched(t, s)
	wantList(t, w, "", "a", "d")
	wantFetched(t, s, r)
	wantStat(t, w, "a", api.File, 3)
	wantStat(t, w, "d", api.Dir, 1)
	refuseStat(t, w, "a/x", api.ErrNotDir)
	refuseStat(t, w, "b/x", api.ErrNone)
	for _, path := range []string{"/a", "a/", "./a"} {
		refuseStat(t, w, path, api.ErrPath)
	}
}

// The fourth of the document's examples.
func TestExample4(t *testing.T) {
	s, _, _, r := document(t)
	w := checkout(t, s, r)
	want(t, "Rename", w.Rename("d", "e"), api.OK)
	wantList(t, w, "e", "x")
	want(t, "Rename", w.Rename("e", "e/f"), api.ErrInside)
	want(t, "Rename", w.Rename("e/x", "a"), api.OK)
	wantList(t, w, "", "a", "e")
	wantList(t, w, "e")
	wantStat(t, w, "a", api.File, 3)
	wantStatus(t, w, changes("-d/x")...)
}

// P1: no text makes a call of a workspace panic; what is no path is ErrPath everywhere, ahead of everything else.
func TestP1AnyPath(t *testing.T) {
	s, _, _, r := document(t)
	w := checkout(t, s, r)
	for _, path := range []string{
		"/", "//", "/a", "a/", "a//d", ".", "..", "./a", "a/.", "d/..", "d/../a", "\x00", "a\x00", "d/\x00x", "thirteenbytes", "d/thirteenbytes",
		"a/a/a/a/a/a", "d/d/d/d/d/", "/a/a/a/a/a", strings.Repeat("é", 7), strings.Repeat("a", 1<<20), strings.Repeat("a/", 1<<20), strings.Repeat("/", 1<<20), strings.Repeat("a/", 1<<20) + "a",
	} {
		refuseStat(t, w, path, api.ErrPath)
		refuseList(t, w, path, api.ErrPath)
		want(t, "Mkdir", w.Mkdir(path), api.ErrPath)
		want(t, "Remove", w.Remove(path), api.ErrPath)
		for flags := -1; flags <= 64; flags++ {
			refuseOpen(t, w, path, flags, api.ErrPath)
		}
		for _, other := range []string{"", "a", "d", "n", "n/n", path} {
			want(t, "Rename", w.Rename(path, other), api.ErrPath)
			want(t, "Rename", w.Rename(other, path), api.ErrPath)
		}
	}
	wantFetched(t, s)
	wantList(t, w, "", "a", "d")
}

// P9: names of 12 bytes, of any bytes but 0 and '/'; five deep.
func TestP9Paths(t *testing.T) {
	s := NewStore()
	a := putFile(t, s, "abc")
	for _, name := range []string{"twelve.bytes", "...", "..a", ".a", " ", "\xff\xfe", strings.Repeat("é", 6)} {
		id := putDir(t, s, file(name, a))
		for range 4 {
			id = putDir(t, s, dir(name, id))
		}
		w := checkout(t, s, id)
		path := strings.Repeat(name+"/", 4) + name
		wantStat(t, w, path, api.File, 3)
		wantStat(t, w, path[:len(path)-len(name)-1], api.Dir, 1)
		refuseStat(t, w, path+"/"+name, api.ErrPath)
		refuseList(t, w, path, api.ErrNotDir)
	}
}

// P9: of the errors on the way the first one comes.
func TestP9Way(t *testing.T) {
	s, ids := branches(t)
	w := checkout(t, s, ids[""])
	for path, want := range map[string]api.Errno{
		"n": api.ErrNone, "n/e/f": api.ErrNone, "d/n": api.ErrNone, "d/n/n/n/n": api.ErrNone, "d/e/n": api.ErrNone, "e": api.ErrNone, "D": api.ErrNone, "d/e/ff": api.ErrNone, "d/e/f ": api.ErrNone,
		"d/g/n": api.ErrNotDir, "d/g/n/n/n": api.ErrNotDir, "d/e/f/f": api.ErrNotDir, "d/g/g": api.ErrNotDir,
	} {
		refuseStat(t, w, path, want)
		refuseList(t, w, path, want)
	}
	refuseList(t, w, "d/g", api.ErrNotDir)
}

// P9: Size is the bytes of a file, the names in a directory.
func TestP9Size(t *testing.T) {
	s := NewStore()
	for n := range 17 {
		great := putFile(t, s, strings.Repeat("x", 16*n))
		w := checkout(t, s, putDir(t, s, dir("d", putDir(t, s, numbered(n, great)...)), file("f", great)))
		wantStat(t, w, "", api.Dir, 2)
		wantStat(t, w, "d", api.Dir, n)
		wantStat(t, w, "f", api.File, 16*n)
	}
}

// P9: names rise byte by byte, whether they were stored, made or moved there.
func TestP9Order(t *testing.T) {
	rising := []string{"\x01", " ", "-", "10", "9", "B", "a", "a b", "aa", "ab", "b", "z", "\x7f", "é", "\xff", "\xff\x01"}
	for turn := range rising {
		s := NewStore()
		a := putFile(t, s, "abc")
		given := append(slices.Clone(rising[turn:]), rising[:turn]...)
		var stored []api.Entry
		for _, name := range given[:5] {
			stored = append(stored, file(name, a))
		}
		w := checkout(t, s, putDir(t, s, dir("d", putDir(t, s, stored...))))
		for _, name := range given[5:10] {
			want(t, "Mkdir", w.Mkdir("d/"+name), api.OK)
		}
		for _, name := range given[10:] {
			want(t, "Mkdir", w.Mkdir("n"), api.OK)
			want(t, "Rename", w.Rename("n", "d/"+name), api.OK)
		}
		wantList(t, w, "d", rising...)
	}
}

// P2: a list of names is the caller's, its spare room too.
func TestP2NamesOut(t *testing.T) {
	s, _, _, r := document(t)
	w := checkout(t, s, r)
	for _, path := range []string{"", "d", "k"} {
		if path == "k" {
			want(t, "Mkdir", w.Mkdir("k"), api.OK)
			want(t, "Mkdir", w.Mkdir("k/n"), api.OK)
		}
		kept, _ := w.List(path)
		names := slices.Clone(kept)
		spoiled, _ := w.List(path)
		spoiled = spoiled[:cap(spoiled)]
		for i := range spoiled {
			spoiled[i] = "!"
		}
		if !slices.Equal(kept, names) {
			t.Errorf("a list of ahead became %q, was %q", kept, names)
		}
		wantList(t, w, path, names...)
		for _, name := range names {
			if _, e := w.Stat(strings.TrimPrefix(path+"/"+name, "/")); e != api.OK {
				t.Errorf("%q in %q is gone: %d", name, path, e)
			}
		}
	}
}

// P10: what Mkdir makes is an empty directory, in which more can be made, five deep.
func TestP10Mkdir(t *testing.T) {
	s, _, _, r := document(t)
	w := checkout(t, s, r)
	for _, path := range []string{"k", "k/k", "k/k/k", "k/k/k/k", "k/k/k/k/k", "d/twelve.bytes", "d/n", "d/n/x"} {
		refuseStat(t, w, path, api.ErrNone)
		want(t, "Mkdir of "+path, w.Mkdir(path), api.OK)
		wantStat(t, w, path, api.Dir, 0)
		want(t, "Mkdir again of "+path, w.Mkdir(path), api.ErrExists)
	}
	want(t, "Mkdir six deep", w.Mkdir("k/k/k/k/k/k"), api.ErrPath)
	wantList(t, w, "", "a", "d", "k")
	wantList(t, w, "d", "n", "twelve.bytes", "x")
	wantList(t, w, "d/n", "x")
	wantStat(t, w, "d/x", api.File, 3)
}

// P10: the errors of Mkdir, the first of them where two apply.
func TestP10MkdirErrors(t *testing.T) {
	s := NewStore()
	a := putFile(t, s, "abc")
	full := putDir(t, s, numbered(16, a)...)
	w := checkout(t, s, putDir(t, s, file("a", a), dir("full", full)))
	for path, e := range map[string]api.Errno{
		"": api.ErrExists, "a": api.ErrExists, "full": api.ErrExists, "full/n0": api.ErrExists,
		"a/b": api.ErrNotDir, "a/b/c": api.ErrNotDir, "full/n0/n": api.ErrNotDir, "b/c": api.ErrNone, "full/n/n": api.ErrNone, "b/": api.ErrPath,
		"full/n": api.ErrFull,
	} {
		want(t, "Mkdir of "+path, w.Mkdir(path), e)
	}
	wantStat(t, w, "full", api.Dir, 16)
	wantList(t, w, "", "a", "full")
	want(t, "Remove", w.Remove("full/n7"), api.OK)
	want(t, "Mkdir of the 16th", w.Mkdir("full/n"), api.OK)
	want(t, "Mkdir of the 17th", w.Mkdir("full/n7"), api.ErrFull)
}

// P10: 16 are the most in the root, too.
func TestP10MkdirRootFull(t *testing.T) {
	s := NewStore()
	w := checkout(t, s, putDir(t, s))
	for i := range 16 {
		want(t, "Mkdir", w.Mkdir(string(rune('a'+i))), api.OK)
	}
	want(t, "Mkdir of the 17th", w.Mkdir("z"), api.ErrFull)
	want(t, "Mkdir", w.Mkdir("p"), api.ErrExists)
	wantStat(t, w, "", api.Dir, 16)
}

// P10: Remove takes away files and empty directories; what is made anew there is new.
func TestP10Remove(t *testing.T) {
	s, _, _, r := document(t)
	w := checkout(t, s, r)
	for path, e := range map[string]api.Errno{"": api.ErrInside, "d": api.ErrNotEmpty, "n": api.ErrNone, "n/n": api.ErrNone, "a/n": api.ErrNotDir, "d/x/x": api.ErrNotDir, "d/n": api.ErrNone, "a/": api.ErrPath} {
		want(t, "Remove of "+path, w.Remove(path), e)
	}
	wantList(t, w, "", "a", "d")
	want(t, "Remove", w.Remove("d/x"), api.OK)
	want(t, "Remove again", w.Remove("d/x"), api.ErrNone)
	wantList(t, w, "d")
	want(t, "Remove", w.Remove("d"), api.OK)
	refuseStat(t, w, "d", api.ErrNone)
	want(t, "Mkdir", w.Mkdir("d"), api.OK)
	wantList(t, w, "d")
	want(t, "Mkdir", w.Mkdir("d/k"), api.OK)
	want(t, "Remove", w.Remove("d"), api.ErrNotEmpty)
	want(t, "Remove", w.Remove("a"), api.OK)
	want(t, "Mkdir", w.Mkdir("a"), api.OK)
	wantStat(t, w, "a", api.Dir, 0)
	wantList(t, w, "", "a", "d")
}

// P10: Rename moves files and directories with all that is in them, changed or not.
func TestP10Rename(t *testing.T) {
	s, ids := branches(t)
	w := checkout(t, s, ids[""])
	want(t, "Mkdir", w.Mkdir("d/e/n"), api.OK)
	want(t, "Mkdir", w.Mkdir("d/e/n/m"), api.OK)
	want(t, "Mkdir", w.Mkdir("d2"), api.OK)
	want(t, "Rename", w.Rename("d", "h/q"), api.OK)
	refuseStat(t, w, "d", api.ErrNone)
	wantList(t, w, "", "d2", "h", "k", "l")
	wantList(t, w, "h", "i", "q")
	wantList(t, w, "h/q", "e", "g")
	wantList(t, w, "h/q/e", "f", "n")
	wantList(t, w, "h/q/e/n", "m")
	wantStat(t, w, "h/q/e/f", api.File, 5)
	want(t, "Mkdir", w.Mkdir("d"), api.OK)
	wantList(t, w, "d")
	want(t, "Rename", w.Rename("h/q/e", "d/e"), api.OK)
	wantList(t, w, "d/e", "f", "n")
	wantList(t, w, "d/e/n", "m")
	wantList(t, w, "h/q", "g")
	wantList(t, w, "d2")
}

// P10: of what was at a path nothing comes back with what comes there later.
func TestP10NothingComesBack(t *testing.T) {
	s, ids := branches(t)
	away := map[string]func(*Workspace) api.Errno{
		"moved":      func(w *Workspace) api.Errno { return w.Rename("n", "q") },
		"moved over": func(w *Workspace) api.Errno { return w.Rename("n", "l") },
		"removed":    func(w *Workspace) api.Errno { w.Remove("n/m/o"); w.Remove("n/m"); return w.Remove("n") },
		"covered":    func(w *Workspace) api.Errno { w.Remove("n/m/o"); w.Remove("n/m"); return w.Rename("d", "n") },
	}
	for how, leave := range away {
		w := checkout(t, s, ids[""])
		for _, path := range []string{"n", "n/m", "n/m/o"} {
			want(t, "Mkdir", w.Mkdir(path), api.OK)
		}
		want(t, how, leave(w), api.OK)
		if how != "covered" {
			want(t, "Rename", w.Rename("d", "n"), api.OK)
		}
		want(t, "Mkdir", w.Mkdir("n/k"), api.OK)
		wantList(t, w, "n", "e", "g", "k")
		want(t, "Rename", w.Rename("n/e", "n/m"), api.OK)
		want(t, "Mkdir", w.Mkdir("n/m/k"), api.OK)
		wantList(t, w, "n/m", "f", "k")
		want(t, "Rename", w.Rename("k", "n/m/o"), api.OK)
		want(t, "Remove", w.Remove("n/m/o/f"), api.OK)
		wantList(t, w, "n/m/o", "g")
	}
}

// P10: from and to the same: nothing changes, but its errors come.
func TestP10RenameSame(t *testing.T) {
	s, a, _, r := document(t)
	w := checkout(t, s, r)
	for path, e := range map[string]api.Errno{"a": api.OK, "d": api.OK, "d/x": api.OK, "": api.ErrInside, "n": api.ErrNone, "a/n": api.ErrNotDir, "a/": api.ErrPath} {
		want(t, "Rename of "+path+" to itself", w.Rename(path, path), e)
	}
	wantList(t, w, "", "a", "d")
	wantList(t, w, "d", "x")
	w = checkout(t, s, putDir(t, s, dir("full", putDir(t, s, numbered(16, a)...))))
	want(t, "Rename in a full directory", w.Rename("full/n3", "full/n3"), api.OK)
	w = checkout(t, s, nest(t, s, 5, file("x", a)))
	want(t, "Rename five deep", w.Rename("in/in/in/in/x", "in/in/in/in/x"), api.OK)
	want(t, "Rename of what is five deep", w.Rename("in", "in"), api.OK)
}

// P10: to below from, by their paths, whatever from is; a name that only begins alike is not below.
func TestP10RenameInside(t *testing.T) {
	s, ids := branches(t)
	w := checkout(t, s, ids[""])
	for _, c := range []struct {
		from, to string
		e        api.Errno
	}{
		{"d", "d/n", api.ErrInside}, {"d", "d/e", api.ErrInside}, {"d", "d/e/f/n", api.ErrInside}, {"d", "d/n/n", api.ErrInside}, {"d/g", "d/g/n", api.ErrInside}, {"d/e", "d/e/n/n", api.ErrInside},
		{"n", "n/n", api.ErrNone}, {"d/g/n", "d/g/n/n", api.ErrNotDir}, {"", "n", api.ErrInside}, {"d", "", api.ErrInside}, {"n", "", api.ErrInside},
		{"d/e", "d", api.ErrNotEmpty}, {"d/g", "d", api.ErrDir}, {"d/e/f", "d/e", api.ErrDir}, {"d", "dd", api.OK}, {"dd", "d", api.OK},
	} {
		want(t, "Rename of "+c.from+" to "+c.to, w.Rename(c.from, c.to), c.e)
	}
	wantList(t, w, "", "d", "h", "k", "l")
	wantList(t, w, "d", "e", "g")
}

// P10: over a file comes a file, over an empty directory a directory, and nothing else over anything.
func TestP10RenameOver(t *testing.T) {
	s, ids := branches(t)
	w := checkout(t, s, ids[""])
	want(t, "Rename of a file over a directory", w.Rename("d/g", "h"), api.ErrDir)
	want(t, "Rename of a file over an empty directory", w.Rename("d/g", "l"), api.ErrDir)
	want(t, "Rename of a directory over a file", w.Rename("d/e", "h/i"), api.ErrNotDir)
	want(t, "Rename of an empty directory over a file", w.Rename("l", "h/i"), api.ErrNotDir)
	want(t, "Rename over a directory with something in it", w.Rename("l", "d"), api.ErrNotEmpty)
	wantList(t, w, "", "d", "h", "k", "l")
	want(t, "Rename over a file", w.Rename("d/e/f", "h/i"), api.OK)
	wantStat(t, w, "h/i", api.File, 5)
	wantList(t, w, "d/e")
	want(t, "Rename over an empty directory", w.Rename("k", "d/e"), api.OK)
	wantList(t, w, "d/e", "f", "g")
	want(t, "Rename over an empty directory of the store", w.Rename("h", "l"), api.OK)
	wantList(t, w, "", "d", "l")
	wantList(t, w, "l", "i")
	want(t, "Mkdir", w.Mkdir("m"), api.OK)
	want(t, "Rename over a new directory", w.Rename("d", "m"), api.OK)
	wantList(t, w, "", "l", "m")
	wantList(t, w, "m/e", "f", "g")
}

// P10: 16 are the most in a directory: one that is renamed within it is not counted, nor one that gives way.
func TestP10RenameFull(t *testing.T) {
	s := NewStore()
	a, empty := putFile(t, s, "abc"), putDir(t, s)
	full := putDir(t, s, append(numbered(15, a), dir("e", empty))...)
	w := checkout(t, s, putDir(t, s, dir("d", empty), file("f", a), dir("full", full)))
	want(t, "Rename into a full directory", w.Rename("f", "full/f"), api.ErrFull)
	want(t, "Rename into a full directory", w.Rename("d", "full/d"), api.ErrFull)
	want(t, "Rename from below a full directory", w.Mkdir("full/e/k"), api.OK)
	want(t, "Rename from below a full directory", w.Rename("full/e/k", "full/k"), api.ErrFull)
	want(t, "Rename out of a full directory and back", w.Rename("full/n0", "n0"), api.OK)
	want(t, "Rename out of a full directory and back", w.Rename("n0", "full/new"), api.OK)
	want(t, "Rename within a full directory", w.Rename("full/new", "full/newer"), api.OK)
	want(t, "Rename over one of 16", w.Rename("f", "full/n1"), api.OK)
	want(t, "Remove", w.Remove("full/e/k"), api.OK)
	want(t, "Rename over one of 16", w.Rename("d", "full/e"), api.OK)
	wantStat(t, w, "full", api.Dir, 16)
	wantList(t, w, "", "full")
}

// P10: nothing comes to stand deeper than 5, be it stored, new, or both.
func TestP10RenameDeep(t *testing.T) {
	s := NewStore()
	a, empty := putFile(t, s, "abc"), putDir(t, s)
	to := nest(t, s, 3, dir("e", empty))
	w := checkout(t, s, putDir(t, s, dir("two", nest(t, s, 2, file("x", a))), dir("one", nest(t, s, 1, file("x", a))), dir("none", empty), dir("to", to), file("x", a)))
	want(t, "Rename", w.Rename("two", "to/in/in/n"), api.ErrFull)
	want(t, "Rename over an empty directory", w.Rename("two", "to/in/in/e"), api.ErrFull)
	want(t, "Rename", w.Rename("one", "to/in/in/e/n"), api.ErrFull)
	want(t, "Rename of a file five deep", w.Rename("x", "to/in/in/e/x"), api.OK)
	want(t, "Rename of an empty directory five deep", w.Rename("none", "to/in/in/e/n"), api.OK)
	want(t, "Rename of one four deep", w.Rename("one", "to/in/in/n"), api.OK)
	want(t, "Rename of two three deep", w.Rename("two", "to/in/n"), api.OK)
	wantStat(t, w, "to/in/n/in/x", api.File, 3)
	want(t, "Mkdir", w.Mkdir("k"), api.OK)
	want(t, "Rename of a new directory", w.Rename("k", "to/in/in/n/k"), api.OK)
	want(t, "Mkdir", w.Mkdir("to/in/k"), api.OK)
	want(t, "Mkdir", w.Mkdir("to/in/k/k"), api.OK)
	want(t, "Rename deeper", w.Rename("to/in/k", "to/in/in/k"), api.OK)
	want(t, "Rename deeper", w.Rename("to/in/in/k", "to/in/n/in/k"), api.ErrFull)
	want(t, "Mkdir", w.Mkdir("to/z"), api.OK)
	want(t, "Rename of all", w.Rename("to", "t"), api.OK)
	want(t, "Mkdir", w.Mkdir("q"), api.OK)
	want(t, "Rename of all deeper", w.Rename("t", "q/t"), api.ErrFull)
}
