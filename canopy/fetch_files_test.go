package canopy

import (
	"slices"
	"strings"
	"testing"

	"canopy/api"
)

// opens makes a workspace of branches in which the file d/g, that has 3 bytes, is open for all, for reading, for writing, and for writing at its end; nothing of it has been fetched.
func opens(t *testing.T) (*Store, *Workspace, map[string]api.ID) {
	t.Helper()
	s, ids := branches(t)
	w := checkout(t, s, ids[""])
	for number, flags := range []int{both, api.Read, api.Write, both + api.Append} {
		wantOpen(t, w, "d/g", flags, number)
	}
	wantFetched(t, s, ids[""], ids["d"])
	return s, w, ids
}

// fetchCalls are calls of open files, and whether the bytes of the file are wanted for them.
func fetchCalls() map[call]bool {
	long := strings.Repeat("x", 257)
	return map[call]bool{
		reading(0, 1): true, reading(0, 300): true, reading(1, 2): true, reading(3, 1): true,
		writing(0, "x"): true, writing(2, "xyz"): true, writing(3, "x"): true, writing(3, long[:254]): true, writing(0, long[:255]): true,
		onFile("Resize", 0, 1): true, onFile("Resize", 2, 3): true, onFile("Resize", 3, 256): true,

		reading(0, 0): false, reading(0, -1): false, reading(2, 1): false, reading(2, -1): false, reading(4, 1): false,
		writing(0, ""): false, writing(3, ""): false, writing(1, "x"): false, writing(1, ""): false, writing(4, "x"): false, writing(0, long): false, writing(3, long): false,
		onFile("Resize", 0, 0): false, onFile("Resize", 0, -1): false, onFile("Resize", 0, 257): false, onFile("Resize", 1, 1): false, onFile("Resize", 1, 0): false, onFile("Resize", 5, 1): false,
		onFile("Seek", 0, 0): false, onFile("Seek", 1, 256): false, onFile("Seek", 0, -1): false, onFile("Seek", 0, 257): false, onFile("Seek", 4, 1): false,
		onFile("Close", 0, 0): false, onFile("Close", 3, 0): false, onFile("Close", 4, 0): false,
	}
}

// P8: the calls of open files fetch the file's bytes alone, where they are wanted; once, whatever becomes of the file.
func TestP8OpenFiles(t *testing.T) {
	fates := map[string]func(*Workspace) api.Errno{
		"stays":             func(w *Workspace) api.Errno { return api.OK },
		"is removed":        func(w *Workspace) api.Errno { return w.Remove("d/g") },
		"is renamed":        func(w *Workspace) api.Errno { return w.Rename("d/g", "n") },
		"moves along":       func(w *Workspace) api.Errno { return w.Rename("d", "n") },
		"has its path made": func(w *Workspace) api.Errno { w.Rename("d/g", "d/n"); return w.Mkdir("d/g") },
	}
	for c, wanted := range fetchCalls() {
		for fate, meet := range fates {
			s, w, ids := opens(t)
			want(t, fate, meet(w), api.OK)
			fetched := s.Fetched()
			if wanted {
				fetched = append(fetched, ids["d/g"])
			}
			perform(w, c)
			if got := s.Fetched(); !slices.Equal(got, fetched) {
				t.Errorf("%+v when the file %s: fetched %v, want %v", c, fate, got, fetched)
			}
			if wanted {
				perform(w, c)
				wantFetched(t, s, fetched...)
			}
		}
	}
}

// P8: a file in whose place another one has come is fetched by what has it open, and the other one at its path.
func TestP8Replaced(t *testing.T) {
	s, w, ids := opens(t)
	want(t, "Rename", w.Rename("h/i", "d/g"), api.OK)
	wantFetched(t, s, ids[""], ids["d"], ids["h"])
	wantRead(t, w, 0, 9, "d/g")
	wantFetched(t, s, ids[""], ids["d"], ids["h"], ids["d/g"])
	wantFile(t, w, "d/g", "h/i")
	wantFetched(t, s, ids[""], ids["d"], ids["h"], ids["d/g"], ids["h/i"])
}

// P8: of a file that was cut to nothing, or is new, nothing is there to be fetched.
func TestP8Cut(t *testing.T) {
	s, ids := branches(t)
	w := checkout(t, s, ids[""])
	wantOpen(t, w, "d/g", api.Read, 0)
	wantOpen(t, w, "d/g", both+api.Truncate, 1)
	wantOpen(t, w, "d/n", both+api.Create, 2)
	wantOpen(t, w, "k/f", both, 3)
	want(t, "Resize", w.Resize(3, 0), api.OK)
	fetched := s.Fetched()
	for number := range 4 {
		wantRead(t, w, number, 9, "")
	}
	for number := 1; number < 4; number++ {
		want(t, "Write", w.Write(number, "new"), api.OK)
		want(t, "Resize", w.Resize(number, 5), api.OK)
	}
	for _, path := range []string{"d/g", "d/n", "k/f"} {
		wantFile(t, w, path, "new\x00\x00")
	}
	wantBytes(t, w, 0, "new\x00\x00")
	wantFetched(t, s, fetched...)
	if slices.Contains(fetched, ids["d/g"]) || slices.Contains(fetched, ids["k/f"]) {
		t.Errorf("fetched %v", fetched)
	}
}

// P8: the bytes of one object are fetched once, at whatever path and by whatever call, and by each workspace for itself.
func TestP8BytesOnce(t *testing.T) {
	s, a, d, r := document(t)
	w, v := checkout(t, s, r), checkout(t, s, r)
	wantOpen(t, w, "a", both, 0)
	wantOpen(t, w, "d/x", both, 1)
	wantFetched(t, s, r, d)
	want(t, "Write", w.Write(0, "x"), api.OK)
	wantFetched(t, s, r, d, a)
	wantStat(t, w, "d/x", api.File, 3)
	wantBytes(t, w, 1, "abc")
	wantBytes(t, w, 0, "xbc")
	wantFetched(t, s, r, d, a)
	wantOpen(t, v, "a", api.Read, 0)
	wantRead(t, v, 0, 1, "a")
	wantFetched(t, s, r, d, a, r, a)
	want(t, "Close", v.Close(0), api.OK)
	wantFile(t, v, "a", "abc")
	wantFetched(t, s, r, d, a, r, a)
}

// P8: Stat of an open file fetches its bytes, for their number, and what was known by Stat is not fetched for Read.
func TestP8StatOfOpen(t *testing.T) {
	s, w, ids := opens(t)
	wantStat(t, w, "d/g", api.File, 3)
	wantFetched(t, s, ids[""], ids["d"], ids["d/g"])
	wantRead(t, w, 0, 9, "d/g")
	want(t, "Write", w.Write(3, "!"), api.OK)
	wantFetched(t, s, ids[""], ids["d"], ids["d/g"])
	wantStat(t, w, "d/g", api.File, 4)
}

// P3: a failing fetch is ErrStore and nothing else, changes neither file nor place, and the same call again does its work; calls that fetch nothing leave the Break waiting.
func TestP3OpenFiles(t *testing.T) {
	for c, wanted := range fetchCalls() {
		for _, how := range []int{api.Missing, api.Spoiled} {
			_, calm, _ := opens(t)
			s, w, ids := opens(t)
			expected := perform(calm, c)
			want(t, "Break", s.Break(how), api.OK)
			if wanted {
				if got := perform(w, c); got != (answer{e: api.ErrStore}) {
					t.Errorf("%+v with a failing fetch = %+v", c, got)
				}
				wantFetched(t, s, ids[""], ids["d"])
			}
			if got := perform(w, c); got != expected {
				t.Errorf("%+v = %+v, want %+v", c, got, expected)
			}
			if !wanted {
				refuseList(t, w, "h", api.ErrStore)
			}
			for number := range 4 {
				for range 2 {
					again := reading(number, 2)
					if got, expected := perform(w, again), perform(calm, again); got != expected {
						t.Errorf("after %+v %+v = %+v, want %+v", c, again, got, expected)
					}
				}
			}
			data, e := calm.Stat("d/g")
			if got, f := w.Stat("d/g"); got != data || f != e {
				t.Errorf("after %+v: %+v, want %+v", c, got, data)
			}
		}
	}
}

// P3: an Open whose fetch fails opens, makes and cuts nothing, and uses up no number.
func TestP3Open(t *testing.T) {
	s, ids := branches(t)
	for _, how := range []int{api.Missing, api.Spoiled} {
		for _, flags := range []int{api.Read, both + api.Truncate, both + api.Create, both + api.Create + api.Exclusive} {
			for _, path := range []string{"d/e/f", "d/e/n", "n", "d"} {
				w := checkout(t, s, ids[""])
				steps := strings.Count(path, "/") + 1
				for range steps {
					want(t, "Break", s.Break(how), api.OK)
					refuseOpen(t, w, path, flags, api.ErrStore)
					refuseRead(t, w, 0, 1, api.ErrFile)
				}
				wantList(t, w, "", "d", "h", "k", "l")
				wantFile(t, w, "d/e/f", "d/e/f")
				wantList(t, w, "d/e", "f")
			}
		}
	}
}

// P3: a Stat of an open file whose fetch fails is as if it had not been.
func TestP3StatOfOpen(t *testing.T) {
	s, w, _ := opens(t)
	want(t, "Break", s.Break(api.Spoiled), api.OK)
	refuseStat(t, w, "d/g", api.ErrStore)
	wantStat(t, w, "d/g", api.File, 3)
	wantBytes(t, w, 0, "d/g")
}
