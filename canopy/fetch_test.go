package canopy

import (
	"math"
	"slices"
	"testing"

	"canopy/api"
)

// The sixth of the document's examples.
func TestExample6(t *testing.T) {
	s, _, _, r := document(t)
	w := checkout(t, s, r)
	want(t, "Break(Missing)", s.Break(api.Missing), api.OK)
	refuseStat(t, w, "a", api.ErrStore)
	wantStat(t, w, "a", api.File, 3)
	want(t, "Break(3)", s.Break(3), api.ErrFlags)
}

// P6: a Break of another number neither lets a fetch fail nor forgets the Break ahead of it.
func TestP6WrongBreak(t *testing.T) {
	s, _, _, r := document(t)
	for _, how := range []int{0, -1, -2, 3, 4, 257, 258, math.MaxInt, math.MinInt} {
		want(t, "Break", s.Break(how), api.ErrFlags)
		wantList(t, checkout(t, s, r), "", "a", "d")
		want(t, "Break", s.Break(api.Missing), api.OK)
		want(t, "Break", s.Break(how), api.ErrFlags)
		refuseList(t, checkout(t, s, r), "", api.ErrStore)
	}
}

// P6: a Break lets one fetch fail, and a second Break ahead of it does not let two fail.
func TestP6Once(t *testing.T) {
	for _, breaks := range [][]int{{1}, {2}, {1, 1}, {1, 2}, {2, 1}, {2, 2, 1, 1}} {
		s, a, d, r := document(t)
		w := checkout(t, s, r)
		for _, how := range breaks {
			want(t, "Break", s.Break(how), api.OK)
		}
		refuseStat(t, w, "d/x", api.ErrStore)
		wantFetched(t, s)
		wantStat(t, w, "d/x", api.File, 3)
		wantFetched(t, s, r, d, a)
	}
}

// P6: a file without bytes and a directory without entries fail to come like all others.
func TestP6BreakOfNothing(t *testing.T) {
	s := NewStore()
	empty, none := putDir(t, s), putFile(t, s, "")
	root := putDir(t, s, dir("d", empty), file("f", none))
	for _, how := range []int{api.Missing, api.Spoiled} {
		w := checkout(t, s, root)
		wantList(t, w, "", "d", "f")
		for _, path := range []string{"d", "f"} {
			want(t, "Break", s.Break(how), api.OK)
			refuseStat(t, w, path, api.ErrStore)
		}
		wantStat(t, w, "d", api.Dir, 0)
		wantStat(t, w, "f", api.File, 0)
	}
	wantFetched(t, s, root, empty, none, root, empty, none)
}

// P6: the fetch that fails is the next one, of whichever workspace of the store, and of no other store.
func TestP6Whose(t *testing.T) {
	s, _, _, r := document(t)
	other, _, _, _ := document(t)
	w, v, far := checkout(t, s, r), checkout(t, s, r), checkout(t, other, r)
	wantList(t, w, "", "a", "d")
	want(t, "Break", s.Break(api.Spoiled), api.OK)
	wantList(t, w, "", "a", "d")
	want(t, "Mkdir", w.Mkdir("k"), api.OK)
	wantList(t, far, "", "a", "d")
	refuseList(t, v, "", api.ErrStore)
	wantList(t, v, "", "a", "d")
	wantList(t, w, "d", "x")
}

// P5, P6, P7: calls that fetch nothing neither fail nor use the Break up, and what they give is not among what was fetched.
func TestP6CallsOfTheStore(t *testing.T) {
	s, a, d, r := document(t)
	want(t, "Break", s.Break(api.Missing), api.OK)
	if data, e := s.GetFile(a); data != "abc" || e != api.OK {
		t.Errorf("GetFile = %q, %d", data, e)
	}
	if again := putDir(t, s, getDir(t, s, r)...); again != r {
		t.Errorf("PutDir = %d, want %d", again, r)
	}
	putFile(t, s, "another one")
	w := checkout(t, s, r)
	wantFetched(t, s)
	refuseStat(t, w, "", api.ErrStore)
	wantFetched(t, s)
	wantStat(t, w, "d", api.Dir, 1)
	wantFetched(t, s, r, d)
}

// P6: what was fetched stands in its order, for each workspace anew.
func TestP6Order(t *testing.T) {
	s, a, d, r := document(t)
	w, v, u := checkout(t, s, r), checkout(t, s, d), checkout(t, s, r)
	wantStat(t, w, "a", api.File, 3)
	wantStat(t, v, "x", api.File, 3)
	wantFetched(t, s, r, a, d, a)
	wantStat(t, w, "d", api.Dir, 1)
	wantStat(t, u, "d/x", api.File, 3)
	wantFetched(t, s, r, a, d, a, d, r, d, a)
}

// P2: the list of what was fetched is the caller's, its spare room too.
func TestP2FetchedOut(t *testing.T) {
	s, _, _, r := document(t)
	var all []api.ID
	for i := range 40 {
		wantList(t, checkout(t, s, r), "", "a", "d")
		all = append(all, r)
		kept, spoiled := s.Fetched(), s.Fetched()
		spoiled = spoiled[:cap(spoiled)]
		for k := range spoiled {
			spoiled[k] = 99
		}
		if !slices.Equal(kept, all) {
			t.Errorf("round %d: %v, want %v", i, kept, all)
		}
		wantFetched(t, s, all...)
	}
}

// P7: which objects are directories; nothing is fetched, and there is no workspace beside an error.
func TestP7Checkout(t *testing.T) {
	s, a, d, r := document(t)
	for _, id := range []api.ID{a, 0, -1, a + d + r, 400, 401, math.MaxInt, math.MinInt} {
		if w, e := s.Checkout(id); w != nil || e != api.ErrObject {
			t.Errorf("Checkout(%d) = %v, %d", id, w, e)
		}
	}
	if w, e := NewStore().Checkout(1); w != nil || e != api.ErrObject {
		t.Errorf("Checkout in an empty store = %v, %d", w, e)
	}
	w, v := checkout(t, s, r), checkout(t, s, d)
	wantFetched(t, s)
	wantList(t, w, "", "a", "d")
	wantList(t, v, "", "x")
	wantList(t, checkout(t, s, putDir(t, s)), "")
}

// P2, P7: a workspace stays what it is, whatever happens to the store and to others.
func TestP2Workspaces(t *testing.T) {
	s, a, d, r := document(t)
	w, v := checkout(t, s, r), checkout(t, s, r)
	wantList(t, w, "d", "x")
	want(t, "Mkdir", v.Mkdir("d/k"), api.OK)
	want(t, "Remove", v.Remove("d/x"), api.OK)
	want(t, "Rename", v.Rename("d", "a2"), api.OK)
	want(t, "Rename", v.Rename("a", "a2/a"), api.OK)
	putDir(t, s, file("z", a))
	wantList(t, v, "", "a2")
	wantList(t, v, "a2", "a", "k")
	for _, u := range []*Workspace{w, checkout(t, s, r)} {
		wantList(t, u, "", "a", "d")
		wantList(t, u, "d", "x")
	}
	if l := getDir(t, s, r); !slices.Equal(l, []api.Entry{file("a", a), dir("d", d)}) || s.Objects() != 4 {
		t.Errorf("the store: %v, %d objects", l, s.Objects())
	}
}

// branches makes a store of files and directories that are all different objects, and tells them by their paths.
func branches(t *testing.T) (*Store, map[string]api.ID) {
	t.Helper()
	s := NewStore()
	ids := map[string]api.ID{}
	for _, path := range []string{"d/e/f", "d/g", "h/i", "k/f", "k/g"} {
		ids[path] = putFile(t, s, path)
	}
	ids["l"] = putDir(t, s)
	ids["d/e"] = putDir(t, s, file("f", ids["d/e/f"]))
	ids["d"] = putDir(t, s, dir("e", ids["d/e"]), file("g", ids["d/g"]))
	ids["h"] = putDir(t, s, file("i", ids["h/i"]))
	ids["k"] = putDir(t, s, file("f", ids["k/f"]), file("g", ids["k/g"]))
	ids[""] = putDir(t, s, dir("d", ids["d"]), dir("h", ids["h"]), dir("k", ids["k"]), dir("l", ids["l"]))
	return s, ids
}

// P8: what is fetched by a call of a workspace that has fetched nothing.
func TestP8What(t *testing.T) {
	for _, c := range []struct {
		call    call
		e       api.Errno
		fetched []string
	}{
		{at("Stat", ""), api.OK, []string{""}},
		{at("Stat", "d"), api.OK, []string{"", "d"}},
		{at("Stat", "d/g"), api.OK, []string{"", "d", "d/g"}},
		{at("Stat", "d/e/f"), api.OK, []string{"", "d", "d/e", "d/e/f"}},
		{at("Stat", "d/e/n"), api.ErrNone, []string{"", "d", "d/e"}},
		{at("Stat", "n/e/f"), api.ErrNone, []string{""}},
		{at("Stat", "d/g/f"), api.ErrNotDir, []string{"", "d"}},
		{at("Stat", "d/e/"), api.ErrPath, nil},
		{at("List", ""), api.OK, []string{""}},
		{at("List", "d/e"), api.OK, []string{"", "d", "d/e"}},
		{at("List", "d/g"), api.ErrNotDir, []string{"", "d"}},
		{at("List", "/"), api.ErrPath, nil},
		{at("Mkdir", ""), api.ErrExists, nil},
		{at("Mkdir", "n"), api.OK, []string{""}},
		{at("Mkdir", "d"), api.ErrExists, []string{""}},
		{at("Mkdir", "d/e/n"), api.OK, []string{"", "d", "d/e"}},
		{at("Mkdir", "d/g/n"), api.ErrNotDir, []string{"", "d"}},
		{at("Remove", ""), api.ErrInside, nil},
		{at("Remove", "d/g"), api.OK, []string{"", "d"}},
		{at("Remove", "d/e"), api.ErrNotEmpty, []string{"", "d", "d/e"}},
		{at("Remove", "l"), api.OK, []string{"", "l"}},
		{rename("", "d"), api.ErrInside, nil},
		{rename("d", ""), api.ErrInside, nil},
		{rename("d", "d"), api.OK, []string{""}},
		{rename("d", "d/n"), api.ErrInside, []string{""}},
		{rename("d", "n"), api.OK, []string{""}},
		{rename("d", "h/n"), api.OK, []string{"", "h"}},
		{rename("d/e", "h/n"), api.OK, []string{"", "d", "h"}},
		{rename("d/e", "h/i"), api.ErrNotDir, []string{"", "d", "h"}},
		{rename("d/e", "l"), api.OK, []string{"", "d", "l"}},
		{rename("d/e", "h"), api.ErrNotEmpty, []string{"", "d", "h"}},
		{rename("d/g", "h/i"), api.OK, []string{"", "d", "h"}},
		{rename("d/g", "h"), api.ErrDir, []string{"", "d"}},
		{rename("n/g", "h/i"), api.ErrNone, []string{""}},
		{opening("d/", api.Read), api.ErrPath, nil},
		{opening("d/g", 0), api.ErrFlags, nil},
		{opening("", api.Read), api.ErrDir, nil},
		{opening("d", api.Read), api.ErrDir, []string{""}},
		{opening("d/e", both+api.Create), api.ErrDir, []string{"", "d"}},
		{opening("n", api.Read), api.ErrNone, []string{""}},
		{opening("n/n", both+api.Create), api.ErrNone, []string{""}},
		{opening("d/g/n", both+api.Create), api.ErrNotDir, []string{"", "d"}},
		{opening("d/g", api.Read), api.OK, []string{"", "d"}},
		{opening("d/e/f", both+api.Append), api.OK, []string{"", "d", "d/e"}},
		{opening("d/e/f", both+api.Truncate), api.OK, []string{"", "d", "d/e"}},
		{opening("d/e/f", both+api.Create), api.OK, []string{"", "d", "d/e"}},
		{opening("d/e/f", both+api.Create+api.Exclusive), api.ErrExists, []string{"", "d", "d/e"}},
		{opening("d/e/n", both+api.Create+api.Exclusive), api.OK, []string{"", "d", "d/e"}},
		{opening("l/n", both+api.Create), api.OK, []string{"", "l"}},
	} {
		s, ids := branches(t)
		var fetched []api.ID
		for _, path := range c.fetched {
			fetched = append(fetched, ids[path])
		}
		w := checkout(t, s, ids[""])
		if got := perform(w, c.call); got.e != c.e {
			t.Errorf("%+v = %+v, want %d", c.call, got, c.e)
		}
		if got := s.Fetched(); !slices.Equal(got, fetched) {
			t.Errorf("%+v fetched %v, want %v", c.call, got, fetched)
		}
	}
}

// P8: what a workspace has fetched it does not fetch again, at whatever path it stands.
func TestP8Once(t *testing.T) {
	s := NewStore()
	a := putFile(t, s, "abc")
	d := putDir(t, s, file("x", a), file("y", a))
	e := putDir(t, s, dir("d", d), file("x", a))
	r := putDir(t, s, dir("d", d), dir("e", e), dir("f", d), file("x", a))
	w := checkout(t, s, r)
	look := func() {
		for _, path := range []string{"x", "e/x"} {
			wantStat(t, w, path, api.File, 3)
		}
		wantList(t, w, "e/d", "x", "y")
	}
	look()
	all := s.Fetched()
	if slices.Sort(all); !slices.Equal(all, []api.ID{a, d, e, r}) {
		t.Errorf("fetched %v", all)
	}
	want(t, "Rename", w.Rename("f", "e/f"), api.OK)
	want(t, "Rename", w.Rename("d/x", "e/f/z"), api.OK)
	want(t, "Mkdir", w.Mkdir("e/f/k"), api.OK)
	want(t, "Remove", w.Remove("d/y"), api.OK)
	want(t, "Remove", w.Remove("d"), api.OK)
	look()
	wantStat(t, w, "e/f/z", api.File, 3)
	wantList(t, w, "e/f", "k", "x", "y", "z")
	if now := s.Fetched(); len(now) != 4 {
		t.Errorf("fetched %v", now)
	}
}

// P8: a directory that has been moved is fetched where it stands now, and nothing at the path where it stood.
func TestP8Moved(t *testing.T) {
	s, ids := branches(t)
	w := checkout(t, s, ids[""])
	want(t, "Rename", w.Rename("d", "q"), api.OK)
	want(t, "Rename", w.Rename("h", "d"), api.OK)
	wantFetched(t, s, ids[""])
	wantList(t, w, "d", "i")
	wantFetched(t, s, ids[""], ids["h"])
	wantList(t, w, "q/e", "f")
	wantFetched(t, s, ids[""], ids["h"], ids["d"], ids["d/e"])
}

// P8: how deep something is the store tells without a fetch.
func TestP8Height(t *testing.T) {
	s := NewStore()
	a := putFile(t, s, "abc")
	four, one := nest(t, s, 4, file("x", a)), putDir(t, s)
	r := putDir(t, s, dir("four", four), dir("one", one))
	w := checkout(t, s, r)
	want(t, "Rename", w.Rename("four", "one/four"), api.ErrFull)
	want(t, "Rename", w.Rename("four", "three"), api.OK)
	wantFetched(t, s, r, one)
}

// P3: with every kind of failure, every call answers ErrStore and nothing else, changes nothing, and does its work the next time.
func TestP3Failures(t *testing.T) {
	for _, how := range []int{api.Missing, api.Spoiled} {
		for _, c := range []call{
			at("Stat", "d/e/f"), at("Stat", "d/e"), at("List", "d/e"), at("Mkdir", "d/e/n"), at("Remove", "d/e/f"), at("Remove", "l"),
			rename("d/g", "h/i"), rename("d/e", "l"), rename("k/f", "k/g"),
			opening("d/g", api.Read), opening("d/e/f", both+api.Truncate), opening("d/e/n", both+api.Create), opening("l/n", both+api.Create+api.Exclusive),
			opening("d", api.Read), opening("n", api.Read), opening("d/g/n", both+api.Create), opening("d/g", both+api.Create+api.Exclusive),
			at("Stat", "d/g/n"), at("List", "d/g"), at("Mkdir", "d/g"), at("Remove", "d"), rename("d/e", "h"), rename("d/n", "h/n"), rename("d/e", "n/n"),
		} {
			s, ids := branches(t)
			calm := perform(checkout(t, s, ids[""]), c)
			n := len(s.Fetched())
			w := checkout(t, s, ids[""])
			want(t, "Break", s.Break(how), api.OK)
			if got := perform(w, c); got != (answer{e: api.ErrStore}) || len(s.Fetched()) != n {
				t.Errorf("%+v with a failing fetch = %+v", c, got)
			}
			if got := perform(w, c); got != calm || len(s.Fetched()) != 2*n {
				t.Errorf("%+v after a failing fetch = %+v, want %+v", c, got, calm)
			}
		}
	}
}

// P3: the errors that are told without a fetch come though a Break waits, and leave it waiting.
func TestP3NoFetch(t *testing.T) {
	s, _, _, r := document(t)
	w := checkout(t, s, r)
	want(t, "Break", s.Break(api.Missing), api.OK)
	refuseStat(t, w, "a//b", api.ErrPath)
	refuseList(t, w, "/", api.ErrPath)
	want(t, "Mkdir", w.Mkdir(""), api.ErrExists)
	want(t, "Remove", w.Remove(""), api.ErrInside)
	want(t, "Rename", w.Rename("a", ""), api.ErrInside)
	want(t, "Rename", w.Rename("a", "."), api.ErrPath)
	refuseOpen(t, w, "a/", both, api.ErrPath)
	refuseOpen(t, w, "a", api.Create, api.ErrFlags)
	refuseOpen(t, w, "", both, api.ErrDir)
	refuseRead(t, w, 0, 1, api.ErrFile)
	refuseStat(t, w, "", api.ErrStore)
	wantStat(t, w, "", api.Dir, 2)
}
