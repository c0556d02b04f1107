// Package files: files that have been opened: what is in them, and what has them open.
package files

import (
	"canopy/api"
	"canopy/shelf"
)

// File is one file, wherever it stands by now, if it stands anywhere: all that have it open share it.
type File struct {
	stored *shelf.Shelf[string]
	id     api.ID // the object whose bytes the file has; 0: its bytes are its own
	own    string
}

// Stored makes a file that has the bytes of an object; they are fetched when they are wanted.
func Stored(stored *shelf.Shelf[string], id api.ID) *File { return &File{stored: stored, id: id} }

// Empty makes a file without bytes.
func Empty() *File { return &File{} }

// Object answers the object whose bytes the file has; 0: its bytes are its own.
func (f *File) Object() api.ID { return f.id }

// Bytes answers what is in the file.
func (f *File) Bytes() (string, api.Errno) {
	if f.id == 0 {
		return f.own, api.OK
	}
	return f.stored.Get(f.id)
}

// Clear cuts the file to nothing. What was in it is not wanted for that, so nothing is fetched and nothing can fail.
func (f *File) Clear() { f.set(nil) }

// Resize cuts the file, or lengthens it by bytes 0.
func (f *File) Resize(size int) api.Errno {
	if size == 0 {
		f.Clear()
		return api.OK
	}
	old, e := f.Bytes()
	if e != api.OK {
		return e
	}
	data := make([]byte, size)
	copy(data, old)
	f.set(data)
	return api.OK
}

// Write lets data stand from a place on; what is missing ahead of it is bytes 0.
func (f *File) Write(at int, data string) api.Errno {
	old, e := f.Bytes()
	if e != api.OK {
		return e
	}
	all := make([]byte, max(len(old), at+len(data)))
	copy(all, old)
	copy(all[at:], data)
	f.set(all)
	return api.OK
}

// set gives the file bytes of its own, in memory of its own.
func (f *File) set(data []byte) { *f = File{own: string(data)} }
