package canopy

import (
	"math"
	"strconv"
	"testing"

	"canopy/api"
)

// The fifth of the document's examples.
func TestExample5(t *testing.T) {
	s, _, _, r := document(t)
	w := checkout(t, s, r)
	refuseOpen(t, w, "a", 0, api.ErrFlags)
	refuseOpen(t, w, "a", api.Create, api.ErrFlags)
	refuseOpen(t, w, "a", api.Write+api.Exclusive, api.ErrFlags)
	refuseOpen(t, w, "a", api.Write+api.Create+api.Exclusive, api.ErrExists)
	refuseOpen(t, w, "d", api.Read, api.ErrDir)
	refuseOpen(t, w, "", api.Read, api.ErrDir)
	refuseOpen(t, w, "zz", api.Read, api.ErrNone)
}

// P11: which numbers are flags, at a file, at nothing and at a directory.
func TestP11Flags(t *testing.T) {
	s, _, _, r := document(t)
	numbers := []int{math.MaxInt, math.MinInt, math.MinInt + api.Read, 1<<32 + api.Read, 1<<62 + both, -1 << 32}
	for flags := -130; flags <= 260; flags++ {
		numbers = append(numbers, flags)
	}
	fit := 0
	for _, flags := range numbers {
		w := checkout(t, s, r)
		if !flagsFit(flags) {
			for _, path := range []string{"a", "n", "d", "", "a/n", "n/n"} {
				refuseOpen(t, w, path, flags, api.ErrFlags)
			}
			wantFetched(t, s)
			continue
		}
		fit++
		existing, missing := api.OK, api.ErrNone
		if flags&api.Exclusive != 0 {
			existing = api.ErrExists
		}
		if flags&api.Create != 0 {
			missing = api.OK
		}
		_, e := w.Open("a", flags)
		want(t, "Open at a file, flags "+strconv.Itoa(flags), e, existing)
		_, e = w.Open("n", flags)
		want(t, "Open at nothing, flags "+strconv.Itoa(flags), e, missing)
		refuseOpen(t, w, "d", flags, api.ErrDir)
		s, _, _, r = document(t)
	}
	if fit != 25 {
		t.Errorf("%d sums of flags are such as may be, want 25", fit)
	}
}

// P11: what each sum of flags does to a file, and what may be done with it.
func TestP11WhatFlagsDo(t *testing.T) {
	for flags := range 64 {
		s, _, _, r := document(t)
		w := checkout(t, s, r)
		number, e := w.Open("a", flags)
		if e != api.OK {
			wantFile(t, w, "a", "abc")
			continue
		}
		wantSize := 3
		if flags&api.Truncate != 0 {
			wantSize = 0
		}
		wantStat(t, w, "a", api.File, wantSize)
		may := func(flag int) api.Errno {
			if flags&flag == 0 {
				return api.ErrDenied
			}
			return api.OK
		}
		_, e = w.Read(number, 9)
		want(t, "Read", e, may(api.Read))
		want(t, "Seek", w.Seek(number, 1), api.OK)
		want(t, "Write", w.Write(number, "X"), may(api.Write))
		switch {
		case flags&api.Write == 0:
			wantFile(t, w, "a", "abc")
		case flags&api.Append != 0:
			wantFile(t, w, "a", "abc"[:wantSize]+"X")
		case flags&api.Truncate != 0:
			wantFile(t, w, "a", "\x00X")
		default:
			wantFile(t, w, "a", "aXc")
		}
		want(t, "Resize", w.Resize(number, 1), may(api.Write))
	}
}

// P11: of several errors the one that is named first comes.
func TestP11WhichError(t *testing.T) {
	s := NewStore()
	a := putFile(t, s, "abc")
	full := putDir(t, s, append(numbered(15, a), dir("d", putDir(t, s)))...)
	r := putDir(t, s, file("a", a), dir("full", full))
	const create, exclusive = both + api.Create, both + api.Create + api.Exclusive
	for _, c := range []struct {
		path                    string
		read, create, exclusive api.Errno
	}{
		{"a", api.OK, api.OK, api.ErrExists},
		{"full/n0", api.OK, api.OK, api.ErrExists},
		{"n", api.ErrNone, api.OK, api.OK},
		{"full/n", api.ErrNone, api.ErrFull, api.ErrFull},
		{"", api.ErrDir, api.ErrDir, api.ErrDir},
		{"full", api.ErrDir, api.ErrDir, api.ErrDir},
		{"full/d", api.ErrDir, api.ErrDir, api.ErrDir},
		{"n/n", api.ErrNone, api.ErrNone, api.ErrNone},
		{"n/n/n", api.ErrNone, api.ErrNone, api.ErrNone},
		{"a/n", api.ErrNotDir, api.ErrNotDir, api.ErrNotDir},
		{"a/n/n", api.ErrNotDir, api.ErrNotDir, api.ErrNotDir},
		{"full/n0/n", api.ErrNotDir, api.ErrNotDir, api.ErrNotDir},
	} {
		for flags, e := range map[int]api.Errno{api.Read: c.read, create: c.create, exclusive: c.exclusive} {
			w := checkout(t, s, r)
			refuseOpen(t, w, c.path, 0, api.ErrFlags)
			refuseOpen(t, w, c.path+"/", flags, api.ErrPath)
			refuseOpen(t, w, c.path+"/", 0, api.ErrPath)
			_, got := w.Open(c.path, flags)
			want(t, "Open of "+c.path, got, e)
			for range 8 {
				w.Open("a", api.Read)
			}
			refuseOpen(t, w, c.path, flags, api.ErrMany)
			refuseOpen(t, w, c.path, 0, api.ErrFlags)
			refuseOpen(t, w, c.path+"/", flags, api.ErrPath)
			wantStat(t, w, "full", api.Dir, 16)
		}
	}
}

// P11: 8 files are open at most, of each workspace; the least free number is given.
func TestP11Many(t *testing.T) {
	s, _, _, r := document(t)
	w, v := checkout(t, s, r), checkout(t, s, r)
	paths := []string{"a", "d/x", "n", "a", "d/n", "n", "d/x", "m"}
	for i, path := range paths {
		wantOpen(t, w, path, both+api.Create, i)
	}
	for range 2 {
		refuseOpen(t, w, "a", api.Read, api.ErrMany)
		refuseOpen(t, w, "o", both+api.Create, api.ErrMany)
		refuseOpen(t, w, "a", both+api.Truncate, api.ErrMany)
	}
	wantList(t, w, "", "a", "d", "m", "n")
	wantStat(t, w, "a", api.File, 3)
	wantOpen(t, v, "a", api.Read, 0)
	for _, numbers := range [][]int{{0}, {7}, {3}, {6, 2}, {1, 4, 0}, {7, 6, 5, 4, 3, 2, 1, 0}} {
		least := make([]bool, 8)
		for _, number := range numbers {
			want(t, "Close", w.Close(number), api.OK)
			least[number] = true
		}
		for number, free := range least {
			if free {
				refuseOpen(t, w, "o", both, api.ErrNone)
				wantOpen(t, w, "a", both, number)
			}
		}
		refuseOpen(t, w, "a", both, api.ErrMany)
	}
}

// P11: what is made is an empty file, five deep and beside 15, in directories of the store and in new ones.
func TestP11Create(t *testing.T) {
	s := NewStore()
	a := putFile(t, s, "abc")
	w := checkout(t, s, putDir(t, s, dir("deep", nest(t, s, 4)), dir("most", putDir(t, s, numbered(15, a)...))))
	want(t, "Mkdir", w.Mkdir("k"), api.OK)
	for _, path := range []string{"n", "deep/in/in/in/n", "most/n", "k/n", "twelve.bytes"} {
		refuseOpen(t, w, path, both, api.ErrNone)
		wantOpen(t, w, path, both+api.Create, 0)
		wantRead(t, w, 0, 9, "")
		want(t, "Close", w.Close(0), api.OK)
		wantFile(t, w, path, "")
		refuseOpen(t, w, path, both+api.Create+api.Exclusive, api.ErrExists)
		wantOpen(t, w, path, both+api.Create, 0)
		want(t, "Write", w.Write(0, "data"), api.OK)
		want(t, "Close", w.Close(0), api.OK)
		wantOpen(t, w, path, both+api.Create, 0)
		wantRead(t, w, 0, 9, "data")
		want(t, "Close", w.Close(0), api.OK)
		wantFile(t, w, path, "data")
	}
	refuseOpen(t, w, "most/m", both+api.Create, api.ErrFull)
	want(t, "Mkdir", w.Mkdir("most/m"), api.ErrFull)
	want(t, "Remove", w.Remove("most/n3"), api.OK)
	wantOpen(t, w, "most/m", both+api.Create+api.Exclusive+api.Truncate, 0)
	wantList(t, w, "", "deep", "k", "most", "n", "twelve.bytes")
	refuseOpen(t, w, "n/n", both+api.Create, api.ErrNotDir)
	want(t, "Mkdir", w.Mkdir("n/n"), api.ErrNotDir)
	want(t, "Mkdir", w.Mkdir("n"), api.ErrExists)
	refuseList(t, w, "n", api.ErrNotDir)
}

// P11: 16 files can be made in a directory, and not one more.
func TestP11Full(t *testing.T) {
	s := NewStore()
	w := checkout(t, s, putDir(t, s))
	for i := range 16 {
		wantOpen(t, w, "f"+strconv.Itoa(i), both+api.Create, 0)
		want(t, "Close", w.Close(0), api.OK)
	}
	refuseOpen(t, w, "f16", both+api.Create, api.ErrFull)
	refuseOpen(t, w, "f16", both+api.Create+api.Exclusive, api.ErrFull)
	refuseOpen(t, w, "f15", both+api.Create+api.Exclusive, api.ErrExists)
	wantOpen(t, w, "f15", both+api.Create, 0)
	wantStat(t, w, "", api.Dir, 16)
}

// P11: a file that is open several times is one file, each time with a place of its own and with its own flags.
func TestP11SeveralTimes(t *testing.T) {
	s, _, _, r := document(t)
	w := checkout(t, s, r)
	wantOpen(t, w, "a", api.Read, 0)
	wantOpen(t, w, "a", api.Read, 1)
	wantOpen(t, w, "a", both, 2)
	wantOpen(t, w, "a", api.Write+api.Append, 3)
	wantRead(t, w, 0, 2, "ab")
	wantRead(t, w, 1, 1, "a")
	want(t, "Write", w.Write(2, "ABC"), api.OK)
	wantRead(t, w, 0, 9, "C")
	wantRead(t, w, 1, 9, "BC")
	wantRead(t, w, 2, 9, "")
	want(t, "Write", w.Write(3, "de"), api.OK)
	want(t, "Write", w.Write(2, "D"), api.OK)
	wantRead(t, w, 0, 1, "D")
	wantRead(t, w, 1, 9, "De")
	wantRead(t, w, 2, 9, "e")
	want(t, "Write", w.Write(0, "x"), api.ErrDenied)
	refuseRead(t, w, 3, 1, api.ErrDenied)
	wantOpen(t, w, "a", api.Write+api.Truncate, 4)
	wantRead(t, w, 0, 9, "")
	wantStat(t, w, "a", api.File, 0)
	want(t, "Write", w.Write(4, "0123456"), api.OK)
	wantRead(t, w, 0, 1, "4")
	want(t, "Close", w.Close(2), api.OK)
	want(t, "Close", w.Close(0), api.OK)
	wantRead(t, w, 1, 9, "56")
	wantFile(t, w, "a", "0123456")
	wantFile(t, w, "d/x", "abc")
	wantFile(t, checkout(t, s, r), "a", "abc")
}

// P11: an open file that is removed stays the same file, and is not the one that comes to its path later.
func TestP11Removed(t *testing.T) {
	for _, first := range []string{"", "written", "read"} {
		s, a, _, r := document(t)
		w := checkout(t, s, r)
		wantOpen(t, w, "d/x", both, 0)
		wantOpen(t, w, "d/x", both, 1)
		bytes := "abc"
		switch first {
		case "written":
			want(t, "Write", w.Write(0, "AB"), api.OK)
			bytes = "ABc"
		case "read":
			wantBytes(t, w, 0, "abc")
		}
		want(t, "Remove", w.Remove("d/x"), api.OK)
		refuseStat(t, w, "d/x", api.ErrNone)
		refuseOpen(t, w, "d/x", both, api.ErrNone)
		wantList(t, w, "d")
		want(t, "Remove", w.Remove("d"), api.OK)
		wantBytes(t, w, 0, bytes)
		want(t, "Write", w.Write(0, "de"), api.OK)
		wantBytes(t, w, 1, bytes+"de")
		want(t, "Resize", w.Resize(1, 4), api.OK)
		wantBytes(t, w, 0, bytes+"d")
		want(t, "Mkdir", w.Mkdir("d"), api.OK)
		wantOpen(t, w, "d/x", both+api.Create+api.Exclusive, 2)
		want(t, "Write", w.Write(2, "other"), api.OK)
		want(t, "Write", w.Write(0, "!"), api.OK)
		wantBytes(t, w, 1, bytes+"d!")
		wantFile(t, w, "d/x", "other")
		want(t, "Close", w.Close(0), api.OK)
		wantBytes(t, w, 1, bytes+"d!")
		want(t, "Close", w.Close(1), api.OK)
		wantFile(t, w, "d/x", "other")
		if data, e := s.GetFile(a); data != "abc" || e != api.OK {
			t.Errorf("the stored file became %q, %d", data, e)
		}
	}
}

// P11: an open file that is renamed, or stands in a directory that is, stays the same file.
func TestP11Renamed(t *testing.T) {
	s, ids := branches(t)
	w := checkout(t, s, ids[""])
	wantOpen(t, w, "d/e/f", both, 0)
	wantOpen(t, w, "d/g", both, 1)
	want(t, "Rename", w.Rename("d/e/f", "d/e/n"), api.OK)
	want(t, "Write", w.Write(0, "D"), api.OK)
	wantFile(t, w, "d/e/n", "D/e/f")
	refuseOpen(t, w, "d/e/f", both, api.ErrNone)
	want(t, "Rename", w.Rename("d/e", "h/e"), api.OK)
	want(t, "Write", w.Write(0, "+E"), api.OK)
	wantFile(t, w, "h/e/n", "D+E/f")
	wantFile(t, w, "d/g", "d/g")
	want(t, "Rename", w.Rename("d", "l"), api.OK)
	want(t, "Rename", w.Rename("h", "d"), api.OK)
	want(t, "Write", w.Write(0, "+"), api.OK)
	want(t, "Write", w.Write(1, "L"), api.OK)
	wantFile(t, w, "d/e/n", "D+E+f")
	wantFile(t, w, "l/g", "L/g")
	wantOpen(t, w, "d/e/n", both, 2)
	want(t, "Resize", w.Resize(2, 1), api.OK)
	wantBytes(t, w, 0, "D")
	want(t, "Rename to itself", w.Rename("d/e/n", "d/e/n"), api.OK)
	want(t, "Rename that is refused", w.Rename("d/e/n", "k"), api.ErrDir)
	want(t, "Write", w.Write(2, "E"), api.OK)
	wantFile(t, w, "d/e/n", "E")
	wantBytes(t, w, 0, "E")
}

// P11: an open file in whose place another one comes stays the same file; so does the one that comes.
func TestP11Replaced(t *testing.T) {
	s, ids := branches(t)
	w := checkout(t, s, ids[""])
	wantOpen(t, w, "k/f", both, 0)
	wantOpen(t, w, "k/g", both, 1)
	want(t, "Rename", w.Rename("k/f", "k/g"), api.OK)
	wantList(t, w, "k", "g")
	wantBytes(t, w, 0, "k/f")
	wantBytes(t, w, 1, "k/g")
	want(t, "Write", w.Write(0, "!"), api.OK)
	want(t, "Write", w.Write(1, "?"), api.OK)
	wantFile(t, w, "k/g", "k/f!")
	wantBytes(t, w, 1, "k/g?")
	want(t, "Rename of one that is not open", w.Rename("d/g", "k/g"), api.OK)
	wantFile(t, w, "k/g", "d/g")
	wantOpen(t, w, "k/g", both+api.Truncate, 2)
	wantBytes(t, w, 0, "k/f!")
	wantBytes(t, w, 1, "k/g?")
	wantOpen(t, w, "k/f", both+api.Create, 3)
	want(t, "Write", w.Write(3, "new"), api.OK)
	want(t, "Rename over it", w.Rename("k/f", "k/g"), api.OK)
	want(t, "Write", w.Write(2, "cut"), api.OK)
	wantFile(t, w, "k/g", "new")
	for number, data := range []string{"k/f!", "k/g?", "cut", "new"} {
		wantBytes(t, w, number, data)
		want(t, "Close", w.Close(number), api.OK)
	}
	wantFile(t, w, "k/g", "new")
}

// P11, P10: where a file was that is no more, a directory may come, and what comes later is another file.
func TestP11NothingComesBack(t *testing.T) {
	away := map[string]func(*Workspace) api.Errno{
		"removed":  func(w *Workspace) api.Errno { return w.Remove("a") },
		"moved":    func(w *Workspace) api.Errno { return w.Rename("a", "d/b") },
		"covering": func(w *Workspace) api.Errno { return w.Rename("a", "d/x") },
	}
	for how, leave := range away {
		s, _, _, r := document(t)
		w := checkout(t, s, r)
		wantOpen(t, w, "a", both, 0)
		want(t, "Write", w.Write(0, "open"), api.OK)
		want(t, how, leave(w), api.OK)
		want(t, "Mkdir", w.Mkdir("a"), api.OK)
		wantList(t, w, "a")
		refuseOpen(t, w, "a", both, api.ErrDir)
		wantOpen(t, w, "a/n", both+api.Create, 1)
		wantStat(t, w, "a/n", api.File, 0)
		want(t, "Remove", w.Remove("a"), api.ErrNotEmpty)
		want(t, "Remove", w.Remove("a/n"), api.OK)
		want(t, "Remove", w.Remove("a"), api.OK)
		wantOpen(t, w, "a", both+api.Create, 2)
		wantFile(t, w, "a", "")
		wantBytes(t, w, 0, "open")
	}
}
