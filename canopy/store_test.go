package canopy

import (
	"slices"
	"strconv"
	"strings"
	"testing"

	"canopy/api"
)

// The first of the document's examples.
func TestExample1(t *testing.T) {
	s := NewStore()
	a := putFile(t, s, "abc")
	if again := putFile(t, s, "abc"); again != a {
		t.Errorf("the same bytes: %d, want %d", again, a)
	}
	d := putDir(t, s, file("x", a))
	for _, name := range []string{"", "..", "a/b", "thirteenbytes"} {
		refuseDir(t, s, api.ErrPath, file(name, a))
	}
	refuseDir(t, s, api.ErrObject, dir("x", a))
	r := putDir(t, s, file("a", a), dir("d", d))
	if again := putDir(t, s, dir("d", d), file("a", a)); again != r || s.Objects() != 3 {
		t.Errorf("another order: %d, want %d; %d objects", again, r, s.Objects())
	}
}

// P4: the same bytes are one object, others another one; Objects counts them.
func TestP4Files(t *testing.T) {
	s := NewStore()
	if s.Objects() != 0 {
		t.Errorf("a new store: %d objects", s.Objects())
	}
	texts := []string{"", "\x00", "\x00\x00", "a", "ab", "abc", "abd", "Abc", "é", "\xff", strings.Repeat("x", 255), strings.Repeat("x", 256), strings.Repeat("x", 255) + "y"}
	var ids []api.ID
	for i, text := range texts {
		id := putFile(t, s, text)
		if slices.Contains(ids, id) || s.Objects() != i+1 {
			t.Errorf("PutFile(%q) = %d, after %v; %d objects", text, id, ids, s.Objects())
		}
		ids = append(ids, id)
	}
	for i, text := range texts {
		if id := putFile(t, s, text); id != ids[i] || s.Objects() != len(texts) {
			t.Errorf("PutFile(%q) = %d, want %d; %d objects", text, id, ids[i], s.Objects())
		}
	}
}

// P4: 256 bytes are the most.
func TestP4FileTooGreat(t *testing.T) {
	s := NewStore()
	for _, n := range []int{257, 258, 512, 1 << 20} {
		if id, e := s.PutFile(strings.Repeat("x", n)); id != 0 || e != api.ErrFull || s.Objects() != 0 {
			t.Errorf("PutFile of %d bytes = %d, %d; %d objects", n, id, e, s.Objects())
		}
	}
	great := strings.Repeat("\xff", 256)
	if data, e := s.GetFile(putFile(t, s, great)); data != great || e != api.OK {
		t.Errorf("256 bytes: %d bytes, %d", len(data), e)
	}
}

// P4: which names a directory takes.
func TestP4Names(t *testing.T) {
	s := NewStore()
	a := putFile(t, s, "abc")
	for _, name := range []string{"a", " ", "...", "..a", ".a", "\xff", "twelve.bytes", strings.Repeat("é", 6)} {
		if l := getDir(t, s, putDir(t, s, file(name, a))); !slices.Equal(l, []api.Entry{file(name, a)}) {
			t.Errorf("%q: %v", name, l)
		}
	}
	for _, name := range []string{"", ".", "..", "/", "/a", "a/", "a/b", "\x00", "a\x00", "thirteenbytes", strings.Repeat("é", 7)} {
		refuseDir(t, s, api.ErrPath, file(name, a))
		refuseDir(t, s, api.ErrPath, file("fine", a), file(name, a), file("too", a))
	}
	refuseDir(t, s, api.ErrExists, file("a", a), file("b", a), file("a", a))
}

// P4: 16 entries are the most.
func TestP4Entries(t *testing.T) {
	s := NewStore()
	a := putFile(t, s, "abc")
	for n := range 17 {
		if l := getDir(t, s, putDir(t, s, numbered(n, a)...)); len(l) != n {
			t.Errorf("%d entries: %v", n, l)
		}
	}
	refuseDir(t, s, api.ErrFull, numbered(17, a)...)
	refuseDir(t, s, api.ErrFull, numbered(1000, a)...)
}

// P4: each entry's object is there, and of the entry's kind.
func TestP4EntryObject(t *testing.T) {
	s := NewStore()
	a := putFile(t, s, "abc")
	d := putDir(t, s, file("x", a))
	for _, entry := range []api.Entry{
		dir("o", a), file("o", d), file("o", 0), dir("o", 0), file("o", -1), file("o", d+1000), {Name: "o"},
		{Name: "o", ID: a}, {Name: "o", Kind: 3, ID: a}, {Name: "o", Kind: 3, ID: d}, {Name: "o", Kind: -1, ID: a},
	} {
		refuseDir(t, s, api.ErrObject, entry)
		refuseDir(t, s, api.ErrObject, file("a", a), entry, dir("z", d))
	}
	putDir(t, s, file("a", a), file("o", a), dir("z", d))
}

// P4: the same entries in whatever order are one object; with another name or object it is another one.
func TestP4SameDir(t *testing.T) {
	s := NewStore()
	a, b := putFile(t, s, "abc"), putFile(t, s, "")
	d := putDir(t, s)
	if d == b {
		t.Errorf("no bytes and no entries are the same: %d", d)
	}
	l := []api.Entry{file("a", a), file("b", b), dir("c", d), file("d", a)}
	id := putDir(t, s, l...)
	n := s.Objects()
	for _, p := range [][4]int{{0, 1, 2, 3}, {3, 2, 1, 0}, {1, 0, 3, 2}, {2, 3, 0, 1}, {3, 0, 1, 2}, {1, 3, 0, 2}} {
		if again := putDir(t, s, l[p[0]], l[p[1]], l[p[2]], l[p[3]]); again != id || s.Objects() != n {
			t.Errorf("order %v: %d, want %d; %d objects", p, again, id, s.Objects())
		}
	}
	ids := []api.ID{a, b, d, id}
	for _, other := range [][]api.Entry{
		l[:3], l[1:], {file("a", a)}, {file("a", b)}, {dir("a", d)}, {file("b", a)}, {file("ab", a)}, {file("a", a), file("b", a)}, {file("a", b), file("b", a)}, {file("a", a), file("b", b)}, {dir("a", id)},
	} {
		if id := putDir(t, s, other...); slices.Contains(ids, id) {
			t.Errorf("PutDir(%v) = %d, after %v", other, id, ids)
		} else {
			ids = append(ids, id)
		}
	}
	if s.Objects() != len(ids) {
		t.Errorf("%d objects, want %d", s.Objects(), len(ids))
	}
}

// P4: nothing stands deeper than 5 below a directory, be it a file or an empty directory, and whatever stands beside it.
func TestP4Deep(t *testing.T) {
	s := NewStore()
	a := putFile(t, s, "abc")
	for _, bottom := range []api.Entry{file("a", a), dir("a", putDir(t, s))} {
		four, five := nest(t, s, 4, bottom), nest(t, s, 5, bottom)
		putDir(t, s, dir("x", four), dir("y", four), file("z", a))
		refuseDir(t, s, api.ErrFull, dir("in", five))
		refuseDir(t, s, api.ErrFull, dir("a", five), dir("b", four), file("c", a))
		refuseDir(t, s, api.ErrFull, file("a", a), dir("b", four), dir("c", five))
		if again := nest(t, s, 5, bottom); again != five {
			t.Errorf("five deep again: %d, want %d", again, five)
		}
	}
}

// P4: 400 objects are the most; those that are there are found all the same.
func TestP4Full(t *testing.T) {
	s := NewStore()
	a := putFile(t, s, "abc")
	d := putDir(t, s, file("x", a))
	fill(t, s, 399)
	last := putDir(t, s, file("last", a))
	for range 2 {
		if id, e := s.PutFile("one more"); id != 0 || e != api.ErrFull || s.Objects() != 400 {
			t.Errorf("the 401st object: %d, %d; %d objects", id, e, s.Objects())
		}
		refuseDir(t, s, api.ErrFull, file("more", a))
		refuseDir(t, s, api.ErrFull)
	}
	if putFile(t, s, "abc") != a || putDir(t, s, file("x", a)) != d || putDir(t, s, file("last", a)) != last {
		t.Error("a full store does not find what it has")
	}
	if data, e := s.GetFile(a); data != "abc" || e != api.OK {
		t.Errorf("GetFile = %q, %d", data, e)
	}
}

// P4: every object has its own ID, above 0, files and directories together.
func TestP4IDs(t *testing.T) {
	s := NewStore()
	seen := map[api.ID]int{}
	for i := range 200 {
		a := putFile(t, s, strconv.Itoa(i))
		seen[a]++
		seen[putDir(t, s, file("x", a))]++
	}
	if len(seen) != 400 || s.Objects() != 400 {
		t.Errorf("%d IDs of %d objects", len(seen), s.Objects())
	}
}

// P5: GetFile gives the bytes that were put.
func TestP5Files(t *testing.T) {
	s := NewStore()
	var all []byte
	for b := range 256 {
		all = append(all, byte(b))
	}
	for _, text := range []string{"", "abc", "é/\x00", string(all)} {
		id := putFile(t, s, text)
		for range 2 {
			if data, e := s.GetFile(id); data != text || e != api.OK {
				t.Errorf("GetFile(%d) = %q, %d, want %q", id, data, e, text)
			}
		}
	}
}

// P5: GetDir gives the entries by rising names, byte by byte, one that another one begins with ahead of it.
func TestP5Dirs(t *testing.T) {
	rising := []string{"\x01", " ", "-", "10", "9", "B", "a", "a b", "aa", "ab", "b", "z", "\x7f", "é", "\xff", "\xff\x01"}
	for turn := range rising {
		s := NewStore() // (a new one: a store that has the directory already would not sort again)
		a := putFile(t, s, "abc")
		d := putDir(t, s, file("x", a))
		var want []api.Entry
		for i, name := range rising {
			want = append(want, []api.Entry{file(name, a), dir(name, d)}[i%2])
		}
		given := append(slices.Clone(want[turn:]), want[:turn]...)
		if turn%2 == 1 {
			slices.Reverse(given)
		}
		if l := getDir(t, s, putDir(t, s, given...)); !slices.Equal(l, want) {
			t.Errorf("PutDir(%v): GetDir = %v, want %v", given, l, want)
		}
		if l := getDir(t, s, putDir(t, s)); len(l) != 0 {
			t.Errorf("an empty directory: %v", l)
		}
	}
}

// P5: what is not there, or is of the other kind.
func TestP5None(t *testing.T) {
	s := NewStore()
	if _, e := s.GetFile(1); e != api.ErrObject {
		t.Errorf("GetFile in an empty store: %d", e)
	}
	a := putFile(t, s, "abc")
	d := putDir(t, s, file("x", a))
	for _, id := range []api.ID{d, 0, -1, a + d + 1, 400, 401, 1 << 62, -1 << 63} {
		if data, e := s.GetFile(id); data != "" || e != api.ErrObject {
			t.Errorf("GetFile(%d) = %q, %d", id, data, e)
		}
	}
	for _, id := range []api.ID{a, 0, -1, a + d + 1, 400, 401, 1 << 62, -1 << 63} {
		if l, e := s.GetDir(id); len(l) != 0 || e != api.ErrObject {
			t.Errorf("GetDir(%d) = %v, %d", id, l, e)
		}
	}
	if s.Objects() != 2 {
		t.Errorf("%d objects", s.Objects())
	}
}
