package files

import (
	"testing"

	"canopy/api"
	"canopy/shelf"
)

// shelfOf makes a shelf of one file, and counts how often it was asked to fetch; while broken holds nothing comes.
func shelfOf(data string, fetches *int, broken *bool) *shelf.Shelf[string] {
	return shelf.New(func(api.ID) (string, api.Errno) {
		*fetches++
		if *broken {
			return "", api.ErrStore
		}
		return data, api.OK
	})
}

func wantBytes(t *testing.T, f *File, want string) {
	t.Helper()
	if data, e := f.Bytes(); data != want || e != api.OK {
		t.Errorf("Bytes() = %q, %d, want %q", data, e, want)
	}
}

// P11: which flags need which others.
func TestFlags(t *testing.T) {
	for flags, want := range map[int]bool{
		0: false, api.Read: true, api.Write: true, api.Read | api.Write: true, 64 | api.Read: false, -1: false, -64 | api.Read: false,
		api.Create: false, api.Create | api.Read: false, api.Create | api.Write: true,
		api.Truncate | api.Read: false, api.Truncate | api.Write: true, api.Append | api.Read: false, api.Append | api.Write: true,
		api.Exclusive | api.Read: false, api.Exclusive | api.Write: false, api.Exclusive | api.Create | api.Read: false, api.Exclusive | api.Create | api.Write: true,
	} {
		if got := Valid(flags); got != want {
			t.Errorf("Valid(%d) = %t", flags, got)
		}
	}
}

// P8: a stored file is fetched when its bytes are wanted, and not once more when they are its own.
func TestFileFetches(t *testing.T) {
	var fetches int
	var broken bool
	stored := shelfOf("abc", &fetches, &broken)
	f, cut := Stored(stored, 7), Stored(stored, 7)
	cut.Clear()
	wantBytes(t, cut, "")
	if e := cut.Write(2, "x"); e != api.OK || fetches != 0 {
		t.Errorf("Write = %d, %d fetches", e, fetches)
	}
	wantBytes(t, cut, "\x00\x00x")
	wantBytes(t, f, "abc")
	if e := f.Write(1, "xyz"); e != api.OK || fetches != 1 {
		t.Errorf("Write = %d, %d fetches", e, fetches)
	}
	wantBytes(t, f, "axyz")
	wantBytes(t, Stored(stored, 7), "abc")
}

// P14: a file is an object's until its bytes are its own.
func TestFileObject(t *testing.T) {
	var fetches int
	var broken bool
	f := Stored(shelfOf("abc", &fetches, &broken), 7)
	if id := f.Object(); id != 7 || fetches != 0 {
		t.Errorf("Object() = %d, %d fetches", id, fetches)
	}
	wantBytes(t, f, "abc")
	if id := f.Object(); id != 7 {
		t.Errorf("Object() = %d", id)
	}
	if e := f.Write(0, "x"); e != api.OK || f.Object() != 0 || Empty().Object() != 0 {
		t.Errorf("Write = %d; Object() = %d", e, f.Object())
	}
}

// P3: with a failing fetch nothing changes.
func TestFileFails(t *testing.T) {
	var fetches int
	broken := true
	f := Stored(shelfOf("abc", &fetches, &broken), 7)
	if e := f.Write(0, "x"); e != api.ErrStore {
		t.Errorf("Write = %d", e)
	}
	if e := f.Resize(1); e != api.ErrStore {
		t.Errorf("Resize = %d", e)
	}
	if data, e := f.Bytes(); data != "" || e != api.ErrStore {
		t.Errorf("Bytes = %q, %d", data, e)
	}
	broken = false
	wantBytes(t, f, "abc")
}

// P12: a file is cut and lengthened.
func TestFileResize(t *testing.T) {
	f := Empty()
	for _, step := range []struct {
		size int
		want string
	}{{0, ""}, {2, "\x00\x00"}, {1, "\x00"}, {3, "\x00\x00\x00"}, {0, ""}} {
		if e := f.Resize(step.size); e != api.OK {
			t.Errorf("Resize(%d) = %d", step.size, e)
		}
		wantBytes(t, f, step.want)
	}
}

// P11, P12: the numbers of what is open.
func TestTable(t *testing.T) {
	var all Table
	for want := range api.MaxOpen {
		number, e := all.Free()
		if number != want || e != api.OK {
			t.Fatalf("Free() = %d, %d, want %d", number, e, want)
		}
		all.Put(number, Empty(), api.Read)
	}
	if number, e := all.Free(); number != 0 || e != api.ErrMany {
		t.Errorf("Free() = %d, %d", number, e)
	}
	for _, number := range []int{-1, api.MaxOpen} {
		if opened, e := all.At(number); opened != nil || e != api.ErrFile || all.Close(number) != api.ErrFile {
			t.Errorf("At(%d) = %v, %d", number, opened, e)
		}
	}
	if e := all.Close(5); e != api.OK || all.Close(5) != api.ErrFile {
		t.Errorf("Close(5) = %d", e)
	}
	if number, e := all.Free(); number != 5 || e != api.OK {
		t.Errorf("Free() = %d, %d", number, e)
	}
}
