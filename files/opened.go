package files

import "canopy/api"

// Opened is a file as one Open has it: with a place of its own, and only for what it was opened for.
type Opened struct {
	file  *File
	flags int
	place int
}

// Read answers the next n bytes, or as many as there are.
func (o *Opened) Read(n int) (string, api.Errno) {
	if n < 0 {
		return "", api.ErrFlags
	}
	if o.flags&api.Read == 0 {
		return "", api.ErrDenied
	}
	// Where no byte can come nothing of the file is wanted, and it is not fetched.
	n = min(n, api.MaxSize-o.place)
	if n == 0 {
		return "", api.OK
	}
	data, e := o.file.Bytes()
	if e != api.OK {
		return "", e
	}
	start := min(o.place, len(data))
	data = data[start:min(start+n, len(data))]
	o.place += len(data)
	return data, api.OK
}

// Write lets data stand from the place on, or from the file's end on.
func (o *Opened) Write(data string) api.Errno {
	if o.flags&api.Write == 0 {
		return api.ErrDenied
	}
	if data == "" {
		return api.OK
	}
	// What would be too much even for a file without bytes is refused without a look at it.
	if o.start(0)+len(data) > api.MaxSize {
		return api.ErrFull
	}
	old, e := o.file.Bytes()
	if e != api.OK {
		return e
	}
	at := o.start(len(old))
	if at+len(data) > api.MaxSize {
		return api.ErrFull
	}
	if e := o.file.Write(at, data); e != api.OK {
		return e
	}
	o.place = at + len(data)
	return api.OK
}

// start tells where bytes are written in a file of this size.
func (o *Opened) start(size int) int {
	if o.flags&api.Append != 0 {
		return size
	}
	return o.place
}

// Seek goes to a place.
func (o *Opened) Seek(at int) api.Errno {
	if at < 0 || at > api.MaxSize {
		return api.ErrFlags
	}
	o.place = at
	return api.OK
}

// Resize cuts the file, or lengthens it; the place stays.
func (o *Opened) Resize(size int) api.Errno {
	if size < 0 || size > api.MaxSize {
		return api.ErrFlags
	}
	if o.flags&api.Write == 0 {
		return api.ErrDenied
	}
	return o.file.Resize(size)
}
