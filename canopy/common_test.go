package canopy

import (
	"math"
	"slices"
	"strconv"
	"strings"
	"testing"
	"unsafe"

	"canopy/api"
)

// P1: no input makes a call of the store panic, and beside an error there is nothing.
func TestP1AnyInput(t *testing.T) {
	s := NewStore()
	a := putFile(t, s, "abc")
	texts := []string{"", "\x00", "/", "..", "a", "\xff\xfe", strings.Repeat("é", 200), strings.Repeat("x", 257), strings.Repeat("/", 1<<20)}
	numbers := []int{math.MinInt, math.MinInt32, -2, -1, 0, 1, 2, 3, 399, 400, 401, math.MaxInt32, math.MaxInt}
	for _, text := range texts {
		if id, e := s.PutFile(text); (e != api.OK) != (id == 0) {
			t.Errorf("PutFile of %d bytes = %d, %d", len(text), id, e)
		}
		for _, kind := range numbers {
			for _, n := range numbers {
				l := []api.Entry{{Name: text, Kind: kind, ID: api.ID(n)}}
				if id, e := s.PutDir(l); (e != api.OK) != (id == 0) {
					t.Errorf("PutDir of kind %d, ID %d = %d, %d", kind, n, id, e)
				}
			}
		}
	}
	for _, n := range numbers {
		if data, e := s.GetFile(api.ID(n)); e != api.OK && data != "" {
			t.Errorf("GetFile(%d) = %q, %d", n, data, e)
		}
		if l, e := s.GetDir(api.ID(n)); e != api.OK && len(l) != 0 {
			t.Errorf("GetDir(%d) = %v, %d", n, l, e)
		}
	}
	refuseDir(t, s, api.ErrFull, numbered(20000, a)...)
	putDir(t, s)
}

// faults are the errors of PutDir in the order in which P4 names them, each with entries that bring it about.
func faults(t *testing.T, s *Store, a api.ID) []struct {
	want api.Errno
	l    []api.Entry
} {
	return []struct {
		want api.Errno
		l    []api.Entry
	}{
		{api.ErrPath, []api.Entry{file("x/y", a)}},
		{api.ErrExists, []api.Entry{file("twice", a), file("twice", a)}},
		{api.ErrFull, numbered(17, a)},
		{api.ErrObject, []api.Entry{file("none", 1000)}},
		{api.ErrFull, []api.Entry{dir("deep", nest(t, s, 5, file("f", a), file("g", a)))}},
	}
}

// P1, P4: of all errors that apply the answer is the first one, wherever in the list the faults stand, in a full store too.
func TestP1FirstError(t *testing.T) {
	for _, objects := range []int{0, 400} {
		s := NewStore()
		a := putFile(t, s, "abc")
		all := faults(t, s, a)
		fill(t, s, objects)
		for set := 1; set < 1<<len(all); set++ {
			l, want := []api.Entry{file("fine", a)}, api.OK
			for i, fault := range all {
				if set&(1<<i) == 0 {
					continue
				}
				l = append(l, fault.l...)
				if want == api.OK {
					want = fault.want
				}
			}
			for range l {
				refuseDir(t, s, want, l...)
				l = append(l[1:], l[0])
			}
		}
	}
}

// P1: a call with an error leaves no trace: a store that saw such calls answers like one that did not.
func TestP1ErrorsChangeNothing(t *testing.T) {
	quiet, noisy := NewStore(), NewStore()
	all := faults(t, quiet, putFile(t, quiet, "abc"))
	faults(t, noisy, putFile(t, noisy, "abc"))
	for i := range 20 {
		for _, fault := range all {
			noisy.PutDir(fault.l)
		}
		noisy.PutFile(strings.Repeat("x", 257))
		noisy.GetFile(0)
		noisy.GetDir(-1)
		q, n := putFile(t, quiet, strconv.Itoa(i)), putFile(t, noisy, strconv.Itoa(i))
		if q != n || quiet.Objects() != noisy.Objects() {
			t.Errorf("round %d: %d and %d; %d and %d objects", i, q, n, quiet.Objects(), noisy.Objects())
		}
	}
}

// P1: what a full store refuses leaves no trace either.
func TestP1RefusalsOfFullStore(t *testing.T) {
	s := NewStore()
	a := putFile(t, s, "abc")
	d := putDir(t, s, file("x", a))
	fill(t, s, 400)
	for i := range 10 {
		if id, e := s.PutFile("one more " + strconv.Itoa(i)); id != 0 || e != api.ErrFull {
			t.Errorf("the 401st object: %d, %d", id, e)
		}
		for range 2 {
			refuseDir(t, s, api.ErrFull, file("more"+strconv.Itoa(i), a))
		}
	}
	if l := getDir(t, s, d); !slices.Equal(l, []api.Entry{file("x", a)}) || s.Objects() != 400 {
		t.Errorf("after refusals: %v; %d objects", l, s.Objects())
	}
}

// P2: a list that is handed in is neither written into, nor its spare room, nor kept.
func TestP2ListIn(t *testing.T) {
	s := NewStore()
	a, b := putFile(t, s, "abc"), putFile(t, s, "b")
	memory := []api.Entry{file("z", a), file("m", b), file("a", a), file("spare", 77), file("room", 78)}
	before := slices.Clone(memory)
	id := putDir(t, s, memory[:3]...)
	if !slices.Equal(memory, before) {
		t.Errorf("PutDir left %v, was %v", memory, before)
	}
	refused := append(slices.Clone(before), file("z", a))
	was := slices.Clone(refused)
	refuseDir(t, s, api.ErrExists, refused...)
	if !slices.Equal(refused, was) {
		t.Errorf("a refused PutDir left %v, was %v", refused, was)
	}
	for i := range memory {
		memory[i] = dir("!", 99)
	}
	want := []api.Entry{file("a", a), file("m", b), file("z", a)}
	if l := getDir(t, s, id); !slices.Equal(l, want) {
		t.Errorf("what was put became %v, want %v", l, want)
	}
	if again := putDir(t, s, want...); again != id {
		t.Errorf("the same entries: %d, want %d", again, id)
	}
}

// P2: a list that comes out is the caller's, its spare room too.
func TestP2ListOut(t *testing.T) {
	s := NewStore()
	a := putFile(t, s, "abc")
	for n := range 17 {
		id := putDir(t, s, numbered(n, a)...)
		kept, spoiled := getDir(t, s, id), getDir(t, s, id)
		want := slices.Clone(kept)
		spoiled = spoiled[:cap(spoiled)]
		for i := range spoiled {
			spoiled[i] = dir("!", 99)
		}
		later := getDir(t, s, id)
		if len(want) != n || !slices.Equal(kept, want) || !slices.Equal(later, want) {
			t.Errorf("%d entries: %v and %v, want %v", n, kept, later, want)
		}
		if again := putDir(t, s, numbered(n, a)...); again != id {
			t.Errorf("the same entries: %d, want %d", again, id)
		}
	}
}

// P2: stores do not disturb one another, and the same calls have the same answers.
func TestP2Stores(t *testing.T) {
	one, two, three := NewStore(), NewStore(), NewStore()
	fill(t, three, 400)
	for i := range 50 {
		text := strconv.Itoa(i)
		a, b := putFile(t, one, text), putFile(t, two, text)
		x, y := putDir(t, one, numbered(i%17, a)...), putDir(t, two, numbered(i%17, b)...)
		if a != b || x != y || !slices.Equal(getDir(t, one, x), getDir(t, two, y)) {
			t.Errorf("the same calls: %d and %d, %d and %d", a, b, x, y)
		}
	}
	if one.Objects() != two.Objects() || three.Objects() != 400 {
		t.Errorf("objects: %d, %d and %d", one.Objects(), two.Objects(), three.Objects())
	}
	putFile(t, one, "in one alone")
	id := putDir(t, one, file("own", 1))
	if _, e := two.GetDir(id); e != api.ErrObject {
		t.Errorf("a directory of another store: %d", e)
	}
	if data, e := three.GetFile(1); data != "filler 0" || e != api.OK {
		t.Errorf("GetFile(1) = %q, %d", data, e)
	}
}

// P2: a text that is handed in is not kept: what becomes of its memory later is not seen.
func TestP2TextsIn(t *testing.T) {
	s, a, _, _ := document(t)
	var lent [][]byte
	lend := func(text string) string {
		memory := []byte(text)
		lent = append(lent, memory)
		return unsafe.String(unsafe.SliceData(memory), len(memory))
	}
	r := putDir(t, s, file(lend("a"), a), file(lend("f"), putFile(t, s, lend("file"))), dir(lend("d"), putDir(t, s)))
	w := checkout(t, s, r)
	want(t, "Mkdir", w.Mkdir(lend("d/k")), api.OK)
	want(t, "Rename", w.Rename(lend("a"), lend("d/k/b")), api.OK)
	for number, path := range []string{"n", "d/m", "d/k/b"} {
		wantOpen(t, w, lend(path), both+api.Create, number)
		want(t, "Write", w.Write(number, lend("written")), api.OK)
	}
	want(t, "Resize", w.Resize(1, 3), api.OK)
	want(t, "Write", w.Write(1, lend("")), api.OK)
	committed := wantCommit(t, w)
	for _, memory := range lent {
		clear(memory)
	}
	wantStatus(t, w, changes("-a", "+d/k/b", "+d/m", "+n")...)
	wantList(t, w, "", "d", "f", "n")
	wantList(t, w, "d", "k", "m")
	wantList(t, w, "d/k", "b")
	v := checkout(t, s, committed)
	for path, bytes := range map[string]string{"f": "file", "n": "written", "d/m": "wri", "d/k/b": "written"} {
		wantFile(t, w, path, bytes)
		wantFile(t, v, path, bytes)
	}
	if id := wantCommit(t, w); id != committed {
		t.Errorf("Commit() = %d, want %d", id, committed)
	}
	if l := getDir(t, s, r); !slices.Equal(l, []api.Entry{file("a", a), dir("d", l[1].ID), file("f", l[2].ID)}) {
		t.Errorf("the stored directory: %v", l)
	}
	if id := putFile(t, s, "file"); id != getDir(t, s, r)[2].ID {
		t.Errorf("the stored file is another one: %d", id)
	}
}
