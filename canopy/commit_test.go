package canopy

import (
	"slices"
	"strconv"
	"strings"
	"testing"

	"canopy/api"
)

// wantObjects wants so many objects in a store.
func wantObjects(t *testing.T, s *Store, n int) {
	t.Helper()
	if s.Objects() != n {
		t.Errorf("%d objects, want %d", s.Objects(), n)
	}
}

// The eighth of the document's examples.
func TestExample8(t *testing.T) {
	s, _, _, r := document(t)
	w := checkout(t, s, r)
	if id := wantCommit(t, w); id != r {
		t.Errorf("Commit() = %d, want %d", id, r)
	}
	wantObjects(t, s, 3)
	want(t, "Mkdir", w.Mkdir("k"), api.OK)
	want(t, "Remove", w.Remove("k"), api.OK)
	if id := wantCommit(t, w); id != r {
		t.Errorf("Commit() = %d, want %d", id, r)
	}
	wantObjects(t, s, 3)
}

// P14: a tree without anything is an object like any other, whether it was made so or was so.
func TestP14Empty(t *testing.T) {
	s, _, d, r := document(t)
	w := checkout(t, s, d)
	want(t, "Remove", w.Remove("x"), api.OK)
	empty := wantCommit(t, w)
	wantObjects(t, s, 4)
	if l := getDir(t, s, empty); len(l) != 0 {
		t.Errorf("a directory without anything: %v", l)
	}
	v := checkout(t, s, empty)
	wantList(t, v, "")
	if id := wantCommit(t, v); id != empty || empty == d || empty == r {
		t.Errorf("Commit() = %d, want %d", id, empty)
	}
	if id := putDir(t, s); id != empty {
		t.Errorf("PutDir() = %d, want %d", id, empty)
	}
}

// P4, P14: what was committed is what one would have put by hand, and just what was not there is new.
func TestP14ByHand(t *testing.T) {
	s, a, d, r := document(t)
	w := checkout(t, s, r)
	putAt(t, w, "e/n", "new")
	want(t, "Rename", w.Rename("a", "e/a"), api.OK)
	id := wantCommit(t, w)
	wantObjects(t, s, 6)
	n := putFile(t, s, "new")
	e := putDir(t, s, file("a", a), file("n", n))
	if hand := putDir(t, s, dir("d", d), dir("e", e)); hand != id {
		t.Errorf("Commit() = %d, by hand %d", id, hand)
	}
	wantObjects(t, s, 6)
	if l := getDir(t, s, id); !slices.Equal(l, []api.Entry{dir("d", d), dir("e", e)}) {
		t.Errorf("the root: %v", l)
	}
	if l := getDir(t, s, r); !slices.Equal(l, []api.Entry{file("a", a), dir("d", d)}) {
		t.Errorf("the base: %v", l)
	}
}

// P14: how many objects are new after these calls.
func TestP14New(t *testing.T) {
	for _, c := range []struct {
		calls []call
		fresh int
	}{
		{nil, 0},
		{[]call{opening("d/e/f", both)}, 0},
		{[]call{opening("d/e/f", both), writing(0, "x")}, 4},
		{[]call{opening("d/e/f", both+api.Truncate)}, 4},
		{[]call{opening("d/e/f", both+api.Truncate), writing(0, "k/g")}, 3},
		{[]call{at("Remove", "d/e/f")}, 2},
		{[]call{at("Remove", "d/g")}, 2},
		{[]call{at("Remove", "l")}, 1},
		{[]call{at("Mkdir", "n")}, 1},
		{[]call{at("Mkdir", "n"), at("Mkdir", "m")}, 1},
		{[]call{at("Mkdir", "n"), at("Mkdir", "n/n")}, 2},
		{[]call{at("Mkdir", "n"), at("Mkdir", "n/n"), at("Mkdir", "m"), at("Mkdir", "m/n")}, 2},
		{[]call{at("Mkdir", "n"), at("Mkdir", "n/n"), at("Mkdir", "m"), at("Mkdir", "m/m")}, 3},
		{[]call{rename("d", "n")}, 1},
		{[]call{rename("d/e", "n")}, 2},
		{[]call{rename("d", "h/n")}, 2},
		{[]call{opening("n", both+api.Create), opening("m", both+api.Create)}, 2},
		{[]call{opening("n", both+api.Create), opening("m", both+api.Create), writing(0, "x"), writing(1, "x")}, 2},
		{[]call{opening("n", both+api.Create), opening("m", both+api.Create), writing(0, "x"), writing(1, "y")}, 3},
		{[]call{opening("n", both+api.Create), writing(0, "x"), at("Remove", "n")}, 0},
		{[]call{opening("n", both+api.Create), at("Remove", "n"), writing(0, "x")}, 0},
		{[]call{at("Mkdir", "n"), opening("n/i", both+api.Create), writing(0, "h/i")}, 1},
		{[]call{at("Mkdir", "n"), opening("n/i", both+api.Create), writing(0, "x"), at("Remove", "h/i"), opening("h/i", both+api.Create), writing(1, "x")}, 3},
		{[]call{rename("k/f", "n"), rename("k/g", "k/f"), rename("n", "k/g")}, 2},
	} {
		s, ids := branches(t)
		w := checkout(t, s, ids[""])
		performAll(t, w, c.calls)
		id := wantCommit(t, w)
		if s.Objects() != 11+c.fresh || (c.fresh == 0) != (id == ids[""]) {
			t.Errorf("after %+v: Commit() = %d; %d objects, want %d", c.calls, id, s.Objects(), 11+c.fresh)
		}
		if again := wantCommit(t, w); again != id || s.Objects() != 11+c.fresh {
			t.Errorf("after %+v: Commit() = %d, then %d; %d objects", c.calls, id, again, s.Objects())
		}
	}
}

// P14: the same trees are the same object, whatever their bases and whatever way they came about.
func TestP14SameTrees(t *testing.T) {
	s, ids := branches(t)
	ways := map[api.ID][]call{
		ids["l"]:   {opening("f", both+api.Create), writing(0, "k/f"), at("Mkdir", "e"), opening("e/g", both+api.Create), writing(1, "k/g")},
		ids["k"]:   {at("Mkdir", "e"), rename("g", "e/g")},
		ids["d/e"]: {opening("f", both), onFile("Resize", 0, 0), writing(0, "k/f"), at("Mkdir", "n"), opening("n/g", both+api.Create), writing(1, "k/g"), rename("n", "e")},
		ids["d"]:   {at("Remove", "e/f"), rename("g", "e/g"), opening("e/g", both), writing(0, "k"), opening("f", both+api.Create), writing(1, "k/f")},
	}
	answers := map[api.ID]int{}
	for base, calls := range ways {
		w := checkout(t, s, base)
		performAll(t, w, calls)
		answers[wantCommit(t, w)]++
	}
	if len(answers) != 1 {
		t.Errorf("the same trees: %v", answers)
	}
	wantObjects(t, s, 13)
}

// P14: what Checkout of the answer shows is the tree, at the bounds too.
func TestP14Checkout(t *testing.T) {
	s := NewStore()
	w := checkout(t, s, putDir(t, s))
	great, odd := strings.Repeat("\xff", 256), "\x00/\x00"
	putAt(t, w, "twelve.bytes/b/c/d/e", great)
	putAt(t, w, "\xff/...", odd)
	want(t, "Mkdir", w.Mkdir("empty"), api.OK)
	for i := range 16 {
		putAt(t, w, "full/n"+strconv.Itoa(i), strconv.Itoa(i))
	}
	v := checkout(t, s, wantCommit(t, w))
	wantStatus(t, v)
	wantList(t, v, "", "empty", "full", "twelve.bytes", "\xff")
	wantList(t, v, "empty")
	wantFile(t, v, "twelve.bytes/b/c/d/e", great)
	wantFile(t, v, "\xff/...", odd)
	wantStat(t, v, "full", api.Dir, 16)
	for i := range 16 {
		wantFile(t, v, "full/n"+strconv.Itoa(i), strconv.Itoa(i))
	}
	want(t, "Mkdir", v.Mkdir("full/more"), api.ErrFull)
	want(t, "Rename", v.Rename("twelve.bytes", "empty/n"), api.ErrFull)
}

// P14: with room for all new objects they come, up to 400 of them; with one place too few none comes, and nothing is changed.
func TestP14Room(t *testing.T) {
	for _, calls := range [][]call{
		{at("Mkdir", "n")},
		{opening("n", both+api.Create)},
		{opening("d/e/n", both+api.Create), writing(0, "x"), opening("h/n", both+api.Create), writing(1, "y")},
		{at("Mkdir", "n"), at("Mkdir", "n/n"), at("Mkdir", "n/n/n"), opening("n/n/n/n", both+api.Create), writing(0, "x")},
	} {
		s, ids := branches(t)
		w := checkout(t, s, ids[""])
		performAll(t, w, calls)
		wantCommit(t, w)
		fresh := s.Objects() - 11
		for missing := range fresh + 1 {
			s, ids := branches(t)
			fill(t, s, 400-fresh+missing)
			stored := everything(s, s.Objects()+1)
			w := checkout(t, s, ids[""])
			performAll(t, w, calls)
			told := perform(w, at("Status", ""))
			if missing == 0 {
				v := checkout(t, s, wantCommit(t, w))
				wantStatus(t, v)
				wantObjects(t, s, 400)
				continue
			}
			for range 3 {
				refuseCommit(t, w, api.ErrFull)
			}
			if now := everything(s, s.Objects()+1); now != stored {
				t.Errorf("the store became %q, was %q", now, stored)
			}
			if got := perform(w, at("Status", "")); got != told {
				t.Errorf("Status() became %+v, was %+v", got, told)
			}
		}
	}
}

// P14: a full store takes what is in it already.
func TestP14Full(t *testing.T) {
	s, ids := branches(t)
	fill(t, s, 400)
	w := checkout(t, s, ids[""])
	if id := wantCommit(t, w); id != ids[""] {
		t.Errorf("Commit() = %d, want %d", id, ids[""])
	}
	putAt(t, w, "d/g", "other")
	refuseCommit(t, w, api.ErrFull)
	putAt(t, w, "d/g", "d/g")
	if id := wantCommit(t, w); id != ids[""] {
		t.Errorf("Commit() = %d, want %d", id, ids[""])
	}
	v := checkout(t, s, ids["d"])
	want(t, "Remove", v.Remove("g"), api.OK)
	refuseCommit(t, v, api.ErrFull)
	want(t, "Rename", v.Rename("e/f", "f"), api.OK)
	want(t, "Remove", v.Remove("e"), api.OK)
	if id := wantCommit(t, v); id != ids["d/e"] {
		t.Errorf("Commit() = %d, want %d", id, ids["d/e"])
	}
	wantObjects(t, s, 400)
}

// P1, P14: a refused Commit leaves no trace: neither its objects are held to be there, nor are IDs used up.
func TestP14RefusalLeavesNothing(t *testing.T) {
	s, _, _, r := document(t)
	fill(t, s, 398)
	w := checkout(t, s, r)
	putAt(t, w, "p", "one")
	putAt(t, w, "q", "two")
	refuseCommit(t, w, api.ErrFull)
	wantObjects(t, s, 398)
	wantList(t, w, "", "a", "d", "p", "q")
	two := putFile(t, s, "two")
	if data, e := s.GetFile(two); data != "two" || e != api.OK {
		t.Errorf("GetFile(%d) = %q, %d", two, data, e)
	}
	wantObjects(t, s, 399)
	refuseCommit(t, w, api.ErrFull)
	want(t, "Remove", w.Remove("p"), api.OK)
	v := checkout(t, s, wantCommit(t, w))
	wantFile(t, v, "q", "two")
	wantObjects(t, s, 400)
}

// P11, P14: open files stay open, at their places; what is written behind a Commit is in the workspace, and not in what was committed.
func TestP14OpenFiles(t *testing.T) {
	s, _, _, r := document(t)
	w := checkout(t, s, r)
	wantOpen(t, w, "a", both, 0)
	wantOpen(t, w, "n", both+api.Create, 1)
	wantOpen(t, w, "d/x", both+api.Append, 2)
	wantRead(t, w, 0, 1, "a")
	want(t, "Write", w.Write(1, "new"), api.OK)
	want(t, "Remove", w.Remove("d/x"), api.OK)
	want(t, "Write", w.Write(2, "gone"), api.OK)
	first := wantCommit(t, w)
	wantObjects(t, s, 6)
	wantRead(t, w, 0, 1, "b")
	want(t, "Write", w.Write(0, "!"), api.OK)
	want(t, "Write", w.Write(1, "er"), api.OK)
	want(t, "Write", w.Write(2, "!"), api.OK)
	wantBytes(t, w, 2, "abcgone!")
	wantFile(t, w, "a", "ab!")
	wantFile(t, w, "n", "newer")
	v := checkout(t, s, first)
	wantFile(t, v, "a", "abc")
	wantFile(t, v, "n", "new")
	wantList(t, v, "d")
	second := checkout(t, s, wantCommit(t, w))
	wantFile(t, second, "a", "ab!")
	wantFile(t, second, "n", "newer")
	want(t, "Close", w.Close(1), api.OK)
	refuseRead(t, w, 1, 1, api.ErrFile)
	wantOpen(t, w, "n", both, 1)
	want(t, "Rename", w.Rename("n", "m"), api.OK)
	want(t, "Write", w.Write(1, "N"), api.OK)
	third := checkout(t, s, wantCommit(t, w))
	wantList(t, third, "", "a", "d", "m")
	wantFile(t, third, "m", "Newer")
	wantFile(t, second, "n", "newer")
}

// P2, P14: a Commit changes no other workspace, and no other store.
func TestP14Others(t *testing.T) {
	s, _, _, r := document(t)
	other, _, _, _ := document(t)
	w, v := checkout(t, s, r), checkout(t, s, r)
	putAt(t, v, "a", "v's own")
	putAt(t, w, "a", "w's own")
	want(t, "Rename", w.Rename("d", "e"), api.OK)
	wantCommit(t, w)
	wantList(t, v, "", "a", "d")
	wantFile(t, v, "a", "v's own")
	wantStatus(t, v, changes("*a")...)
	wantList(t, checkout(t, s, r), "", "a", "d")
	wantObjects(t, other, 3)
}

// P15: with failing fetches before every call, the calls that answer ErrStore apart, a workspace tells what one in a calm store tells, to the IDs.
func TestP15FailingFetches(t *testing.T) {
	for seed := range 100 {
		d, e := dice(seed), dice(seed)
		calm, calmRoots := someStore(t, &d, 20)
		rough, roughRoots := someStore(t, &e, 20)
		root := d.roll(len(calmRoots))
		m := newPair(t, newBench(t, calm), calmRoots[root])
		w := checkout(t, rough, roughRoots[root])
		failed := 0
		for range 150 {
			c := someCall(&d, m.m)
			wanted := m.call(t, c)
			want(t, "Break", rough.Break(1+d.roll(2)), api.OK)
			got := perform(w, c)
			if got.e == api.ErrStore {
				failed++
				if got != (answer{e: api.ErrStore}) {
					t.Fatalf("%+v = %+v", c, got)
				}
				got = perform(w, c)
			}
			if got != wanted {
				t.Fatalf("%+v = %+v, want %+v, after %+v", c, got, wanted, m.log)
			}
		}
		if failed == 0 {
			t.Errorf("seed %d: no fetch failed", seed)
		}
		if everything(rough, 400) != everything(calm, 400) || !slices.Equal(rough.Fetched(), calm.Fetched()) {
			t.Errorf("seed %d: the stores are not the same", seed)
		}
	}
}
