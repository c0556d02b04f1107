package canopy

import (
	"math"
	"strings"
	"testing"

	"canopy/api"
)

// The third of the document's examples.
func TestExample3(t *testing.T) {
	s, _, _, r := document(t)
	w := checkout(t, s, r)
	wantOpen(t, w, "a", api.Read, 0)
	wantRead(t, w, 0, 2, "ab")
	wantRead(t, w, 0, 9, "c")
	wantRead(t, w, 0, 1, "")
	want(t, "Write", w.Write(0, "x"), api.ErrDenied)
	wantOpen(t, w, "a", api.Write+api.Append, 1)
	want(t, "Write", w.Write(1, "d"), api.OK)
	wantRead(t, w, 0, 5, "d")
	want(t, "Remove", w.Remove("a"), api.OK)
	want(t, "Seek", w.Seek(0, 0), api.OK)
	wantRead(t, w, 0, 9, "abcd")
	refuseStat(t, w, "a", api.ErrNone)
	want(t, "Close", w.Close(0), api.OK)
	want(t, "Close", w.Close(0), api.ErrFile)
	wantOpen(t, w, "n", api.Write+api.Create, 0)
}

// The seventh of the document's examples.
func TestExample7(t *testing.T) {
	s, _, _, r := document(t)
	w := checkout(t, s, r)
	wantOpen(t, w, "n", api.Write+api.Create, 0)
	want(t, "Seek", w.Seek(0, 3), api.OK)
	want(t, "Write", w.Write(0, "x"), api.OK)
	wantFile(t, w, "n", "\x00\x00\x00x")
	want(t, "Write of 253", w.Write(0, strings.Repeat("y", 253)), api.ErrFull)
	wantFile(t, w, "n", "\x00\x00\x00x")
	want(t, "Write of 252", w.Write(0, strings.Repeat("y", 252)), api.OK)
	wantFile(t, w, "n", "\x00\x00\x00x"+strings.Repeat("y", 252))
}

// P1, P12: of a number under which nothing is open every call answers ErrFile, ahead of every other error.
func TestP12NoFile(t *testing.T) {
	s, _, _, r := document(t)
	fresh, some := checkout(t, s, r), checkout(t, s, r)
	for i, path := range []string{"a", "a", "d/x", "a"} {
		wantOpen(t, some, path, api.Read, i)
	}
	want(t, "Close", some.Close(1), api.OK)
	want(t, "Close", some.Close(3), api.OK)
	check := func(w *Workspace, file int) {
		t.Helper()
		for _, n := range []int{0, 1, -1, 257, math.MaxInt, math.MinInt} {
			refuseRead(t, w, file, n, api.ErrFile)
			want(t, "Seek", w.Seek(file, n), api.ErrFile)
			want(t, "Resize", w.Resize(file, n), api.ErrFile)
		}
		for _, n := range []int{0, 1, 256, 257, 1 << 20} {
			want(t, "Write", w.Write(file, strings.Repeat("x", n)), api.ErrFile)
		}
		want(t, "Close", w.Close(file), api.ErrFile)
	}
	for _, file := range []int{-1, 1, 3, 4, 7, 8, 9, 256, -8, 1 << 32, 1<<32 + 2, math.MaxInt, math.MinInt} {
		check(fresh, file)
		check(some, file)
	}
	check(fresh, 0)
	check(fresh, 2)
	wantRead(t, some, 0, 9, "abc")
	wantRead(t, some, 2, 9, "abc")
}

// P12: which error of two comes, and that nothing has changed with it.
func TestP12WhichError(t *testing.T) {
	s, _, _, r := document(t)
	w := checkout(t, s, r)
	wantOpen(t, w, "a", api.Read, 0)
	wantOpen(t, w, "a", api.Write, 1)
	for _, file := range []int{0, 1} {
		want(t, "Seek", w.Seek(file, 1), api.OK)
		for _, n := range []int{-1, -2, -257, math.MinInt} {
			refuseRead(t, w, file, n, api.ErrFlags)
			want(t, "Seek", w.Seek(file, n), api.ErrFlags)
			want(t, "Resize", w.Resize(file, n), api.ErrFlags)
		}
		for _, n := range []int{257, 258, 1 << 32, math.MaxInt} {
			want(t, "Seek", w.Seek(file, n), api.ErrFlags)
			want(t, "Resize", w.Resize(file, n), api.ErrFlags)
		}
	}
	for _, n := range []int{0, 1, 256, 257, math.MaxInt} {
		refuseRead(t, w, 1, n, api.ErrDenied)
	}
	for _, n := range []int{0, 1, 3, 256} {
		want(t, "Resize", w.Resize(0, n), api.ErrDenied)
	}
	for _, n := range []int{0, 1, 256, 257} {
		want(t, "Write", w.Write(0, strings.Repeat("x", n)), api.ErrDenied)
	}
	want(t, "Write", w.Write(1, strings.Repeat("x", 256)), api.ErrFull)
	wantRead(t, w, 0, 9, "bc")
	want(t, "Write", w.Write(1, "X"), api.OK)
	wantFile(t, w, "a", "aXc")
}

// P12: reads of every number of bytes, from every place.
func TestP12Read(t *testing.T) {
	s, _, _, r := document(t)
	w := checkout(t, s, r)
	wantOpen(t, w, "a", api.Read, 0)
	for place, rest := range map[int]string{0: "abc", 1: "bc", 2: "c", 3: "", 4: "", 255: "", 256: ""} {
		for _, n := range []int{0, 1, 2, 3, 4, 256, 257, 1 << 40, math.MaxInt} {
			got := rest[:min(n, len(rest))]
			want(t, "Seek", w.Seek(0, place), api.OK)
			wantRead(t, w, 0, n, got)
			wantRead(t, w, 0, 256, rest[len(got):])
			wantRead(t, w, 0, 256, "")
		}
	}
}

// P12: a read behind the file's end leaves the place where it is.
func TestP12ReadBehindTheEnd(t *testing.T) {
	s, _, _, r := document(t)
	w := checkout(t, s, r)
	wantOpen(t, w, "a", both, 0)
	want(t, "Seek", w.Seek(0, 5), api.OK)
	wantRead(t, w, 0, 9, "")
	want(t, "Write", w.Write(0, "x"), api.OK)
	wantFile(t, w, "a", "abc\x00\x00x")
	wantRead(t, w, 0, 9, "")
	want(t, "Write", w.Write(0, "y"), api.OK)
	wantFile(t, w, "a", "abc\x00\x00xy")
}

// P12: writes from every place, within the file, across its end and behind it.
func TestP12Write(t *testing.T) {
	for place, bytes := range map[int]string{
		0: "XYcdef", 1: "aXYdef", 4: "abcdXY", 5: "abcdeXY", 6: "abcdefXY", 7: "abcdef\x00XY", 9: "abcdef\x00\x00\x00XY", 254: "abcdef" + strings.Repeat("\x00", 248) + "XY",
	} {
		s := NewStore()
		w := checkout(t, s, putDir(t, s, file("a", putFile(t, s, "abcdef"))))
		wantOpen(t, w, "a", both, 0)
		want(t, "Seek", w.Seek(0, place), api.OK)
		want(t, "Write", w.Write(0, "XY"), api.OK)
		wantFile(t, w, "a", bytes)
		wantRead(t, w, 0, 256, bytes[place+2:])
	}
}

// P12: with Append bytes come at the file's end, wherever the place is, and the place is behind them.
func TestP12Append(t *testing.T) {
	s, _, _, r := document(t)
	for _, place := range []int{0, 1, 3, 100, 256} {
		w := checkout(t, s, r)
		wantOpen(t, w, "a", both+api.Append, 0)
		wantOpen(t, w, "a", both, 1)
		wantRead(t, w, 0, 1, "a")
		want(t, "Seek", w.Seek(0, place), api.OK)
		want(t, "Write", w.Write(0, "de"), api.OK)
		wantRead(t, w, 0, 9, "")
		want(t, "Resize", w.Resize(1, 7), api.OK)
		wantRead(t, w, 0, 1, "\x00")
		want(t, "Write", w.Write(0, "f"), api.OK)
		wantFile(t, w, "a", "abcde\x00\x00f")
		want(t, "Resize", w.Resize(0, 1), api.OK)
		wantRead(t, w, 0, 9, "")
		want(t, "Write", w.Write(0, "g"), api.OK)
		wantFile(t, w, "a", "ag")
	}
}

// P12: a file has 256 bytes at most; what is too much is not written in part.
func TestP12Full(t *testing.T) {
	text := func(n int) string { return strings.Repeat("0123456789", 26)[:n] }
	for place := 0; place <= 256; place += 8 {
		for _, flags := range []int{both, both + api.Append} {
			s := NewStore()
			stored := text(place)
			w := checkout(t, s, putDir(t, s, file("a", putFile(t, s, stored))))
			wantOpen(t, w, "a", flags, 0)
			want(t, "Seek", w.Seek(0, place), api.OK)
			want(t, "Write of one too much", w.Write(0, text(257-place)), api.ErrFull)
			want(t, "Write of too much", w.Write(0, strings.Repeat("x", 1<<16)), api.ErrFull)
			wantRead(t, w, 0, 256, "")
			wantFile(t, w, "a", stored)
			want(t, "Write of all that there is room for", w.Write(0, text(256-place)), api.OK)
			wantFile(t, w, "a", stored+text(256-place))
			want(t, "Write of one more", w.Write(0, "x"), api.ErrFull)
			want(t, "Write of nothing", w.Write(0, ""), api.OK)
			wantStat(t, w, "a", api.File, 256)
		}
	}
}

// P12: a file of 256 bytes can be written within, but not with Append.
func TestP12WithinFull(t *testing.T) {
	s := NewStore()
	w := checkout(t, s, putDir(t, s, file("a", putFile(t, s, strings.Repeat("a", 256)))))
	wantOpen(t, w, "a", both, 0)
	wantOpen(t, w, "a", both+api.Append, 1)
	want(t, "Write", w.Write(1, "x"), api.ErrFull)
	want(t, "Write", w.Write(0, "x"), api.OK)
	want(t, "Seek", w.Seek(0, 255), api.OK)
	want(t, "Write", w.Write(0, "xy"), api.ErrFull)
	want(t, "Write", w.Write(0, "y"), api.OK)
	wantFile(t, w, "a", "x"+strings.Repeat("a", 254)+"y")
	want(t, "Seek", w.Seek(0, 0), api.OK)
	want(t, "Write of all", w.Write(0, strings.Repeat("b", 256)), api.OK)
	wantFile(t, w, "a", strings.Repeat("b", 256))
}

// P12: where nothing is written nothing changes: neither the file nor the place, be it behind the end, or with Append.
func TestP12WriteNothing(t *testing.T) {
	s, _, _, r := document(t)
	for _, flags := range []int{both, both + api.Append} {
		for place, rest := range map[int]string{0: "abc", 1: "bc", 3: "", 9: "", 256: ""} {
			w := checkout(t, s, r)
			wantOpen(t, w, "a", flags, 0)
			want(t, "Seek", w.Seek(0, place), api.OK)
			want(t, "Write", w.Write(0, ""), api.OK)
			wantRead(t, w, 0, 9, rest)
			wantFile(t, w, "a", "abc")
		}
	}
}

// P12: Seek goes to every place from 0 to 256, in every file.
func TestP12Seek(t *testing.T) {
	s, _, _, r := document(t)
	w := checkout(t, s, r)
	wantOpen(t, w, "a", api.Read, 0)
	wantOpen(t, w, "n", api.Write+api.Create, 1)
	for at := 0; at <= 256; at++ {
		for file := range 2 {
			want(t, "Seek", w.Seek(file, at), api.OK)
		}
		wantRead(t, w, 0, 9, "abc"[min(at, 3):])
	}
	wantStat(t, w, "n", api.File, 0)
	want(t, "Seek", w.Seek(0, 1), api.OK)
	want(t, "Seek", w.Seek(0, 257), api.ErrFlags)
	want(t, "Seek", w.Seek(0, -1), api.ErrFlags)
	wantRead(t, w, 0, 9, "bc")
}

// P12: Resize cuts and lengthens to every size; the place stays, and what was cut does not come back.
func TestP12Resize(t *testing.T) {
	s := NewStore()
	r := putDir(t, s, file("a", putFile(t, s, strings.Repeat("abcdefgh", 10))))
	for size := 0; size <= 256; size++ {
		w := checkout(t, s, r)
		wantOpen(t, w, "a", both, 0)
		wantRead(t, w, 0, 5, "abcde")
		want(t, "Resize", w.Resize(0, size), api.OK)
		bytes := strings.Repeat("abcdefgh", 10)[:min(size, 80)] + strings.Repeat("\x00", max(0, size-80))
		wantRead(t, w, 0, 256, bytes[min(5, size):])
		wantFile(t, w, "a", bytes)
		want(t, "Resize", w.Resize(0, 3), api.OK)
		want(t, "Resize", w.Resize(0, 6), api.OK)
		wantFile(t, w, "a", bytes[:min(3, size)]+strings.Repeat("\x00", 6-min(3, size)))
	}
}

// P12: what is open is open no more after Close, and its file goes on.
func TestP12Close(t *testing.T) {
	s, _, _, r := document(t)
	w := checkout(t, s, r)
	for i := range 8 {
		wantOpen(t, w, "a", both, i)
	}
	for _, file := range []int{3, 0, 7, 5} {
		want(t, "Write", w.Write(file, "XY"), api.OK)
		want(t, "Close", w.Close(file), api.OK)
		want(t, "Close again", w.Close(file), api.ErrFile)
		refuseRead(t, w, file, 1, api.ErrFile)
		want(t, "Write", w.Write(file, "x"), api.ErrFile)
	}
	for _, file := range []int{1, 2, 4, 6} {
		wantRead(t, w, file, 9, "XYc")
		want(t, "Close", w.Close(file), api.OK)
	}
	wantFile(t, w, "a", "XYc")
	wantOpen(t, w, "a", both, 0)
	wantRead(t, w, 0, 9, "XYc")
}

// P2: the same object at two paths is two files, and so it is in two workspaces.
func TestP2SameObject(t *testing.T) {
	s, _, _, r := document(t)
	w, v := checkout(t, s, r), checkout(t, s, r)
	wantOpen(t, w, "a", both, 0)
	wantOpen(t, w, "d/x", both, 1)
	wantOpen(t, v, "a", both, 0)
	want(t, "Write", w.Write(0, "1"), api.OK)
	want(t, "Resize", w.Resize(1, 1), api.OK)
	want(t, "Write", v.Write(0, "22"), api.OK)
	wantBytes(t, w, 0, "1bc")
	wantBytes(t, w, 1, "a")
	wantBytes(t, v, 0, "22c")
	wantFile(t, v, "d/x", "abc")
	wantFile(t, checkout(t, s, r), "a", "abc")
}

// P2, P12: bytes of every value come back as they were written.
func TestP12AnyBytes(t *testing.T) {
	all := make([]byte, 256)
	for i := range all {
		all[i] = byte(i)
	}
	s := NewStore()
	w := checkout(t, s, putDir(t, s))
	wantOpen(t, w, "n", both+api.Create, 0)
	want(t, "Write", w.Write(0, string(all)), api.OK)
	wantBytes(t, w, 0, string(all))
	wantFile(t, w, "n", string(all))
}
