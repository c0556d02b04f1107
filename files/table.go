package files

import (
	"slices"

	"canopy/api"
)

// Table holds what is open, by its number.
type Table struct {
	all [api.MaxOpen]*Opened
}

// Free answers the least number that nothing open has.
func (t *Table) Free() (int, api.Errno) {
	number := slices.Index(t.all[:], nil)
	if number < 0 {
		return 0, api.ErrMany
	}
	return number, api.OK
}

// Put lets a file be open under a free number.
func (t *Table) Put(number int, file *File, flags int) {
	t.all[number] = &Opened{file: file, flags: flags}
}

// At answers what is open under a number.
func (t *Table) At(number int) (*Opened, api.Errno) {
	if number < 0 || number >= len(t.all) || t.all[number] == nil {
		return nil, api.ErrFile
	}
	return t.all[number], api.OK
}

// Close lets nothing be open under a number.
func (t *Table) Close(number int) api.Errno {
	_, e := t.At(number)
	if e == api.OK {
		t.all[number] = nil
	}
	return e
}
