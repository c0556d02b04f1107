package canopy

import (
	"slices"
	"testing"

	"canopy/api"
)

// statusFetches are calls, and what a Status behind them must fetch of a store of branches beyond what the calls have, in that order.
func statusFetches() []struct {
	calls   []call
	fetched []string
} {
	return []struct {
		calls   []call
		fetched []string
	}{
		{nil, nil},
		{[]call{at("List", "d/e"), at("Stat", "k/g")}, nil},
		{[]call{opening("d/g", both)}, nil},
		{[]call{opening("d/g", api.Write+api.Truncate)}, nil},
		{[]call{opening("d/g", api.Write+api.Truncate), writing(0, "d/g")}, nil},
		{[]call{opening("d/g", api.Write+api.Truncate), writing(0, "k/f")}, nil},
		{[]call{at("Remove", "d/g")}, nil},
		{[]call{at("Remove", "l")}, nil},
		{[]call{at("Mkdir", "n")}, nil},
		{[]call{rename("d/g", "h/i")}, nil},
		{[]call{rename("k/f", "k/g")}, nil},
		{[]call{rename("d", "n"), rename("n", "d")}, nil},
		{[]call{rename("h", "n")}, []string{"h"}},
		{[]call{rename("l", "n")}, []string{"l"}},
		{[]call{rename("d", "n")}, []string{"d", "d/e"}},
		{[]call{rename("d/e", "n")}, []string{"d/e"}},
		{[]call{rename("d/e", "d/n")}, []string{"d/e"}},
		{[]call{rename("d", "l")}, []string{"d", "d/e"}},
		{[]call{rename("h", "n"), rename("k", "h")}, []string{"k", "h"}},
		{[]call{rename("h", "n"), rename("k", "h"), rename("n", "k")}, []string{"k", "h"}},
		{[]call{rename("h", "n"), at("Mkdir", "h")}, []string{"h"}},
		{[]call{rename("h", "n"), opening("h", api.Write+api.Create)}, []string{"h"}},
		{[]call{rename("h", "n"), at("Mkdir", "h"), opening("h/i", api.Write+api.Create), writing(0, "h/i")}, []string{"h"}},
		{[]call{rename("h", "d/n")}, []string{"h"}},
	}
}

// idsOf answers the objects at some paths.
func idsOf(ids map[string]api.ID, paths []string) []api.ID {
	var l []api.ID
	for _, path := range paths {
		l = append(l, ids[path])
	}
	return l
}

// P8: Status fetches directories alone, those at paths at which another object stands or nothing does; a second one fetches nothing more.
func TestP8Status(t *testing.T) {
	for _, c := range statusFetches() {
		s, ids := branches(t)
		w := checkout(t, s, ids[""])
		performAll(t, w, c.calls)
		all := append(s.Fetched(), idsOf(ids, c.fetched)...)
		for range 2 {
			told := perform(w, at("Status", ""))
			if now := s.Fetched(); told.e != api.OK || !slices.Equal(now, all) {
				t.Errorf("after %+v: Status() = %+v; fetched %v, want %v", c.calls, told, now, all)
			}
		}
	}
}

// P3: with a failing fetch Status answers ErrStore and nothing else; the same call again, and all others, answer as if it had not been.
func TestP3Status(t *testing.T) {
	for _, how := range []int{api.Missing, api.Spoiled} {
		for _, c := range statusFetches() {
			calm, _ := branches(t)
			s, ids := branches(t)
			v, w := checkout(t, calm, ids[""]), checkout(t, s, ids[""])
			performAll(t, v, c.calls)
			performAll(t, w, c.calls)
			before := s.Fetched()
			want(t, "Break", s.Break(how), api.OK)
			if len(c.fetched) > 0 {
				refuseStatus(t, w, api.ErrStore)
				wantFetched(t, s, before...)
			}
			for _, again := range []call{at("Status", ""), at("Commit", ""), at("Status", "")} {
				if got, wanted := perform(w, again), perform(v, again); got != wanted {
					t.Errorf("after %+v: %+v = %+v, want %+v", c.calls, again, got, wanted)
				}
				wantFetched(t, s, calm.Fetched()...)
			}
			if len(c.fetched) == 0 {
				refuseStat(t, checkout(t, s, ids["l"]), "", api.ErrStore)
			}
		}
	}
}

// P3, P8: whichever of its fetches fails, what Status has fetched ahead of it is kept, and is not fetched again.
func TestP3StatusEachFetch(t *testing.T) {
	for _, known := range [][]string{nil, {"n"}, {"n", "n/e"}} {
		s, ids := branches(t)
		w := checkout(t, s, ids[""])
		want(t, "Rename", w.Rename("d", "n"), api.OK)
		want(t, "Rename", w.Rename("k", "d"), api.OK)
		for _, path := range known {
			if _, e := w.List(path); e != api.OK {
				t.Errorf("List(%q): %d", path, e)
			}
		}
		want(t, "Break", s.Break(api.Spoiled), api.OK)
		refuseStatus(t, w, api.ErrStore)
		for range 2 {
			wantStatus(t, w, changes("-d/e/f", "+d/f", "*d/g", "-k/f", "-k/g", "+n/e/f", "+n/g")...)
		}
		all := s.Fetched()
		if slices.Sort(all); !slices.Equal(all, []api.ID{ids["d/e"], ids["d"], ids["k"], ids[""]}) {
			t.Errorf("fetched %v", all)
		}
	}
}

// P8: where the same object stands again nothing is fetched for that path, though it was made anew, and its like in the base was never looked into; for another path it may have to be.
func TestP8StatusMadeAnew(t *testing.T) {
	s := NewStore()
	e := putDir(t, s, file("y", putFile(t, s, "y")))
	d := putDir(t, s, dir("e", e), file("x", putFile(t, s, "x")))
	r := putDir(t, s, dir("d", d))
	w := checkout(t, s, r)
	want(t, "Rename", w.Rename("d", "n"), api.OK)
	putAt(t, w, "d/x", "x")
	putAt(t, w, "d/e/y", "y")
	want(t, "Rename", w.Rename("d", "m"), api.OK)
	want(t, "Rename", w.Rename("n", "d"), api.OK)
	wantStatus(t, w, changes("+m/e/y", "+m/x")...)
	wantFetched(t, s, r)
	want(t, "Rename", w.Rename("d", "n"), api.OK)
	want(t, "Rename", w.Rename("m", "d"), api.OK)
	wantStatus(t, w, changes("+n/e/y", "+n/x")...)
	wantFetched(t, s, r, d, e)
	if id := wantCommit(t, w); !slices.Equal(getDir(t, s, id), []api.Entry{dir("d", d), dir("n", d)}) {
		t.Errorf("committed: %v", getDir(t, s, id))
	}
}

// P3, P8: a Break that waits goes on waiting where a tree like that of the base was made anew.
func TestP8StatusSameRoot(t *testing.T) {
	s, _, _, r := document(t)
	full := putDir(t, s, dir("n", r))
	w := checkout(t, s, full)
	want(t, "Rename", w.Rename("n", "m"), api.OK)
	putAt(t, w, "n/a", "abc")
	putAt(t, w, "n/d/x", "abc")
	want(t, "Break", s.Break(api.Missing), api.OK)
	refuseStatus(t, w, api.ErrStore)
	want(t, "Rename", w.Rename("n", "k"), api.OK)
	want(t, "Rename", w.Rename("m", "n"), api.OK)
	want(t, "Break", s.Break(api.Missing), api.OK)
	wantStatus(t, w, changes("+k/a", "+k/d/x")...)
	wantFetched(t, s, full)
	for _, path := range []string{"k/d/x", "k/d", "k/a", "k"} {
		want(t, "Remove", w.Remove(path), api.OK)
	}
	wantStatus(t, w)
	if id := wantCommit(t, w); id != full {
		t.Errorf("Commit() = %d, want %d", id, full)
	}
	wantFetched(t, s, full)
	refuseList(t, w, "n", api.ErrStore)
}

// P8: what a workspace has fetched for Status it does not fetch again for other calls, nor the other way round; another one fetches for itself.
func TestP8StatusOnce(t *testing.T) {
	s, ids := branches(t)
	w, v := checkout(t, s, ids[""]), checkout(t, s, ids[""])
	want(t, "Rename", w.Rename("d", "n"), api.OK)
	wantList(t, w, "n", "e", "g")
	wantFetched(t, s, ids[""], ids["d"])
	wantStatus(t, w, changes("-d/e/f", "-d/g", "+n/e/f", "+n/g")...)
	wantFetched(t, s, ids[""], ids["d"], ids["d/e"])
	wantList(t, w, "n/e", "f")
	want(t, "Remove", w.Remove("n/e/f"), api.OK)
	wantFetched(t, s, ids[""], ids["d"], ids["d/e"])
	want(t, "Rename", v.Rename("d/e", "d/n"), api.OK)
	wantStatus(t, v, changes("-d/e/f", "+d/n/f")...)
	wantFetched(t, s, ids[""], ids["d"], ids["d/e"], ids[""], ids["d"], ids["d/e"])
}

// P3, P8: Commit and Objects fetch nothing, whatever has changed: a Break that waits goes on waiting.
func TestP8Commit(t *testing.T) {
	for _, c := range statusFetches() {
		s, ids := branches(t)
		w := checkout(t, s, ids[""])
		performAll(t, w, c.calls)
		before := s.Fetched()
		want(t, "Break", s.Break(api.Missing), api.OK)
		wantCommit(t, w)
		s.Objects()
		wantFetched(t, s, before...)
		refuseList(t, checkout(t, s, ids["l"]), "", api.ErrStore)
		fill(t, s, 400)
		want(t, "Mkdir", w.Mkdir("another"), api.OK)
		want(t, "Break", s.Break(api.Spoiled), api.OK)
		refuseCommit(t, w, api.ErrFull)
		refuseList(t, checkout(t, s, ids["l"]), "", api.ErrStore)
	}
}

// P8, P14: what the workspace has itself it does not fetch, though it lies in the store since a Commit.
func TestP8AfterCommit(t *testing.T) {
	s, ids := branches(t)
	w := checkout(t, s, ids[""])
	putAt(t, w, "d/g", "other")
	putAt(t, w, "n/n", "new")
	wantOpen(t, w, "n/m", both+api.Create, 0)
	before := s.Fetched()
	id := wantCommit(t, w)
	want(t, "Break", s.Break(api.Missing), api.OK)
	wantStatus(t, w, changes("*d/g", "+n/m", "+n/n")...)
	wantFile(t, w, "d/g", "other")
	wantFile(t, w, "n/n", "new")
	wantList(t, w, "n", "m", "n")
	want(t, "Write", w.Write(0, "more"), api.OK)
	want(t, "Rename", w.Rename("n", "d/n"), api.OK)
	wantStatus(t, w, changes("*d/g", "+d/n/m", "+d/n/n")...)
	wantCommit(t, w)
	wantFetched(t, s, before...)
	refuseList(t, checkout(t, s, id), "", api.ErrStore)
}
