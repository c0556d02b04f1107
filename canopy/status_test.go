package canopy

import (
	"slices"
	"strings"
	"testing"

	"canopy/api"
)

// P13: an unchanged workspace has no changes, whatever was looked at, opened or closed in it.
func TestP13AsItWas(t *testing.T) {
	s, ids := branches(t)
	w := checkout(t, s, ids[""])
	wantStatus(t, w)
	for _, path := range []string{"", "d", "d/e", "h", "l"} {
		if _, e := w.List(path); e != api.OK {
			t.Errorf("List(%q): %d", path, e)
		}
	}
	wantFile(t, w, "d/e/f", "d/e/f")
	wantOpen(t, w, "d/g", both+api.Append, 0)
	wantOpen(t, w, "h/i", both+api.Create, 1)
	want(t, "Write", w.Write(0, ""), api.OK)
	want(t, "Resize", w.Resize(1, 3), api.OK)
	wantStatus(t, w)
	want(t, "Close", w.Close(0), api.OK)
	wantStatus(t, w)
	wantStatus(t, checkout(t, s, ids["l"]))
}

// P13: what comes to be as it was is no change, by whatever way it went.
func TestP13BackAgain(t *testing.T) {
	ways := map[string][]call{
		"a file renamed away and back":      {rename("d/g", "n"), rename("n", "d/g")},
		"a directory renamed away and back": {rename("d", "n"), rename("n", "k/n"), rename("k/n", "d")},
		"two files exchanged and back":      {rename("k/f", "n"), rename("k/g", "k/f"), rename("n", "k/g"), rename("k/f", "n"), rename("k/g", "k/f"), rename("n", "k/g")},
		"a directory made and removed":      {at("Mkdir", "d/n"), at("Remove", "d/n")},
		"a file made and removed":           {opening("d/e/n", both+api.Create), at("Remove", "d/e/n")},
		"a file cut and written as it was":  {opening("d/g", api.Write+api.Truncate), writing(0, "d/"), writing(0, "g")},
		"a file written over as it was":     {opening("d/g", api.Write), writing(0, "xyz"), onFile("Seek", 0, 1), writing(0, "/g"), onFile("Seek", 0, 0), writing(0, "d")},
		"a file lengthened and cut":         {opening("d/g", api.Write+api.Append), writing(0, "more"), onFile("Resize", 0, 3)},
		"a file removed and made anew":      {at("Remove", "d/g"), opening("d/g", api.Write+api.Create), writing(0, "d/g")},
		"a directory removed and made anew": {at("Remove", "l"), at("Mkdir", "l")},
		"a tree removed and made anew":      {at("Remove", "h/i"), at("Remove", "h"), at("Mkdir", "h"), opening("h/i", api.Write+api.Create), writing(0, "h/i")},
		"a file replaced by one like it":    {opening("n", api.Write+api.Create), writing(0, "d/g"), rename("n", "d/g")},
		"a file in its directory's place":   {rename("l", "n"), opening("l", api.Write+api.Create), at("Remove", "l"), rename("n", "l")},
	}
	for way, calls := range ways {
		s, ids := branches(t)
		w := checkout(t, s, ids[""])
		performAll(t, w, calls)
		if l, e := w.Status(); len(l) != 0 || e != api.OK {
			t.Errorf("%s: Status() = %v, %d", way, l, e)
		}
		if id, e := w.Commit(); id != ids[""] || e != api.OK || s.Objects() != 11 {
			t.Errorf("%s: Commit() = %d, %d; %d objects", way, id, e, s.Objects())
		}
	}
}

// P13: which change each of these calls makes.
func TestP13What(t *testing.T) {
	for _, c := range []struct {
		calls []call
		want  []api.Change
	}{
		{[]call{opening("n", api.Write+api.Create)}, changes("+n")},
		{[]call{opening("d/e/n", api.Write+api.Create), writing(0, "x")}, changes("+d/e/n")},
		{[]call{opening("d/g", api.Write+api.Truncate)}, changes("*d/g")},
		{[]call{opening("d/g", api.Write), writing(0, "xyz")}, changes("*d/g")},
		{[]call{opening("d/g", api.Write), writing(0, "d/h")}, changes("*d/g")},
		{[]call{opening("d/g", api.Write+api.Append), writing(0, "\x00")}, changes("*d/g")},
		{[]call{opening("d/g", api.Write), onFile("Resize", 0, 4)}, changes("*d/g")},
		{[]call{opening("d/g", api.Write), onFile("Resize", 0, 2)}, changes("*d/g")},
		{[]call{at("Remove", "d/g")}, changes("-d/g")},
		{[]call{rename("d/g", "d/n")}, changes("-d/g", "+d/n")},
		{[]call{rename("k/f", "k/g")}, changes("-k/f", "*k/g")},
		{[]call{rename("k/f", "n"), rename("k/g", "k/f"), rename("n", "k/g")}, changes("*k/f", "*k/g")},
		{[]call{opening("k/f", api.Write+api.Truncate), writing(0, "k/g")}, changes("*k/f")},
		{[]call{at("Mkdir", "n"), at("Mkdir", "n/n")}, nil},
		{[]call{at("Remove", "l")}, nil},
		{[]call{rename("l", "d/e/l")}, nil},
		{[]call{rename("d", "n")}, changes("-d/e/f", "-d/g", "+n/e/f", "+n/g")},
		{[]call{rename("d", "l")}, changes("-d/e/f", "-d/g", "+l/e/f", "+l/g")},
		{[]call{rename("d/e", "n")}, changes("-d/e/f", "+n/f")},
		{[]call{rename("d", "n"), rename("k", "d")}, changes("-d/e/f", "+d/f", "*d/g", "-k/f", "-k/g", "+n/e/f", "+n/g")},
		{[]call{at("Remove", "h/i"), at("Remove", "h")}, changes("-h/i")},
		{[]call{at("Remove", "h/i"), rename("d/e", "h/i")}, changes("-d/e/f", "-h/i", "+h/i/f")},
		{[]call{rename("h", "n"), rename("d/g", "h")}, changes("-d/g", "+h", "-h/i", "+n/i")},
		{[]call{rename("h/i", "n"), at("Remove", "h"), rename("n", "h")}, changes("+h", "-h/i")},
		{[]call{rename("h", "l/h"), opening("l/h/n", api.Write+api.Create)}, changes("-h/i", "+l/h/i", "+l/h/n")},
		{[]call{at("Mkdir", "n"), opening("n/m", api.Write+api.Create), rename("n", "d/e/n")}, changes("+d/e/n/m")},
	} {
		s, ids := branches(t)
		w := checkout(t, s, ids[""])
		performAll(t, w, c.calls)
		if l, e := w.Status(); !slices.Equal(l, c.want) || e != api.OK {
			t.Errorf("after %+v: Status() = %v, %d, want %v", c.calls, l, e, c.want)
		}
	}
}

// P13: over a base without anything all files are added, five deep too; in a tree without anything all are deleted.
func TestP13Empty(t *testing.T) {
	s, ids := branches(t)
	w := checkout(t, s, ids["l"])
	putAt(t, w, "a/b/c/d/e", "deep")
	putAt(t, w, "z", "")
	wantStatus(t, w, changes("+a/b/c/d/e", "+z")...)
	v := checkout(t, s, ids[""])
	for _, path := range []string{"d/e/f", "d/e", "d/g", "d", "h/i", "h", "k/f", "k/g", "k", "l"} {
		want(t, "Remove", v.Remove(path), api.OK)
	}
	wantStatus(t, v, changes("-d/e/f", "-d/g", "-h/i", "-k/f", "-k/g")...)
	if id := wantCommit(t, v); id != ids["l"] {
		t.Errorf("Commit() = %d, want the directory without anything, %d", id, ids["l"])
	}
}

// P13: paths rise byte by byte, so that what is in a directory need not stand together: a-b is less than a/b.
func TestP13Order(t *testing.T) {
	rising := []string{"A/b", "a\x01", "a b/c", "a!", "a-b/a", "a-b/a-b", "a.", "a/b", "a/b-c", "a/b0/c", "a/c", "a0", "aa/b", "é/a", "\xff/\x01", "\xff/\xff"}
	for turn := range rising {
		s := NewStore()
		w := checkout(t, s, putDir(t, s))
		var added, deleted, changed []api.Change
		for i, path := range rising {
			putAt(t, w, rising[(i*5+turn)%len(rising)], "x")
			added, deleted, changed = append(added, changes("+"+path)...), append(deleted, changes("-"+path)...), append(changed, changes("*"+path)...)
		}
		wantStatus(t, w, added...)
		base := wantCommit(t, w)
		gone, other := checkout(t, s, base), checkout(t, s, base)
		for i := range rising {
			path := rising[(i*7+turn)%len(rising)]
			want(t, "Remove", gone.Remove(path), api.OK)
			putAt(t, other, path, "y")
		}
		wantStatus(t, gone, deleted...)
		wantStatus(t, other, changed...)
	}
}

// P13: where a file was in a directory's place, or comes there, it stands ahead of what is in the directory, with others between.
func TestP13OrderOfKinds(t *testing.T) {
	s := NewStore()
	w := checkout(t, s, putDir(t, s))
	putAt(t, w, "a/b", "")
	putAt(t, w, "a-b", "")
	putAt(t, w, "a0", "")
	wantStatus(t, w, changes("+a-b", "+a/b", "+a0")...)
	v := checkout(t, s, wantCommit(t, w))
	want(t, "Remove", v.Remove("a/b"), api.OK)
	want(t, "Remove", v.Remove("a"), api.OK)
	putAt(t, v, "a", "")
	putAt(t, v, "a-b", "other")
	want(t, "Remove", v.Remove("a0"), api.OK)
	wantStatus(t, v, changes("+a", "*a-b", "-a/b", "-a0")...)
	u := checkout(t, s, wantCommit(t, v))
	want(t, "Remove", u.Remove("a"), api.OK)
	putAt(t, u, "a/b", "")
	want(t, "Remove", u.Remove("a-b"), api.OK)
	putAt(t, u, "a-b/c", "")
	wantStatus(t, u, changes("-a", "-a-b", "+a-b/c", "+a/b")...)
}

// P11, P13: what is written into an open file is told at the path at which it stands by now, if it stands anywhere.
func TestP13OpenFiles(t *testing.T) {
	s, ids := branches(t)
	w := checkout(t, s, ids[""])
	wantOpen(t, w, "d/g", both, 0)
	wantOpen(t, w, "h/i", both, 1)
	want(t, "Rename", w.Rename("d/g", "d/n"), api.OK)
	want(t, "Remove", w.Remove("h/i"), api.OK)
	wantStatus(t, w, changes("-d/g", "+d/n", "-h/i")...)
	want(t, "Write", w.Write(0, "x"), api.OK)
	want(t, "Write", w.Write(1, "x"), api.OK)
	wantStatus(t, w, changes("-d/g", "+d/n", "-h/i")...)
	want(t, "Rename", w.Rename("d/n", "d/g"), api.OK)
	wantStatus(t, w, changes("*d/g", "-h/i")...)
	want(t, "Rename", w.Rename("k/f", "d/g"), api.OK)
	want(t, "Write", w.Write(0, "d"), api.OK)
	wantStatus(t, w, changes("*d/g", "-h/i", "-k/f")...)
}

// P13, P14: the base stays what it was when the tree is committed, or another workspace's.
func TestP13Base(t *testing.T) {
	s, _, _, r := document(t)
	w, v := checkout(t, s, r), checkout(t, s, r)
	putAt(t, w, "d/n", "n")
	putAt(t, w, "a", "other")
	for range 3 {
		wantStatus(t, w, changes("*a", "+d/n")...)
		wantStatus(t, v)
		wantCommit(t, w)
	}
	want(t, "Remove", w.Remove("d/n"), api.OK)
	wantStatus(t, w, changes("*a")...)
	putAt(t, w, "a", "abc")
	wantStatus(t, w)
}

// P2: the list of changes is the caller's, its spare room too.
func TestP2StatusOut(t *testing.T) {
	s := NewStore()
	w := checkout(t, s, putDir(t, s))
	var all []api.Change
	for i := range 16 {
		name := "n" + string(rune('a'+i))
		putAt(t, w, name, "")
		all = append(all, changes("+"+name)...)
		kept, _ := w.Status()
		spoiled, _ := w.Status()
		spoiled = spoiled[:cap(spoiled)]
		for k := range spoiled {
			spoiled[k] = api.Change{Path: "!", What: 99}
		}
		if !slices.Equal(kept, all) {
			t.Errorf("Status() = %v, want %v", kept, all)
		}
		wantStatus(t, w, all...)
	}
	wantList(t, w, "", "na", "nb", "nc", "nd", "ne", "nf", "ng", "nh", "ni", "nj", "nk", "nl", "nm", "nn", "no", "np")
}

// P1, P13: a tree of all files that there can be, of few objects.
func TestP13Great(t *testing.T) {
	s := NewStore()
	l := numbered(16, putFile(t, s, "x"))
	for range 4 {
		id := putDir(t, s, l...)
		for i := range l {
			l[i] = dir(l[i].Name, id)
		}
	}
	w := checkout(t, s, putDir(t, s, l...))
	want(t, "Rename", w.Rename("n3", "m"), api.OK)
	got, e := w.Status()
	if len(got) != 2*16*16*16*16 || e != api.OK {
		t.Fatalf("%d changes, %d", len(got), e)
	}
	if got[0] != (api.Change{Path: "m/n0/n0/n0/n0", What: api.Added}) || got[len(got)-1] != (api.Change{Path: "n3/n9/n9/n9/n9", What: api.Deleted}) {
		t.Errorf("from %v to %v", got[0], got[len(got)-1])
	}
	if !slices.IsSortedFunc(got, func(a, b api.Change) int { return strings.Compare(a.Path, b.Path) }) || len(s.Fetched()) != 5 {
		t.Errorf("they do not rise, or too much was fetched: %v", s.Fetched())
	}
	wantCommit(t, w)
	if s.Objects() != 7 {
		t.Errorf("%d objects", s.Objects())
	}
}
