package canopy

import (
	"slices"
	"strings"

	"canopy/api"
)

// hand is a file of a model as one Open has it.
type hand struct {
	x     *thing
	place int

	read, write, atEnd bool
}

// flagsFit tells of every number whether P11 lets a file be opened with it, by its words.
func flagsFit(flags int) bool {
	if flags < 0 || flags > 1+2+4+8+16+32 {
		return false
	}
	has := func(flag int) bool { return flags/flag%2 == 1 }
	switch {
	case !has(api.Read) && !has(api.Write):
		return false
	case !has(api.Write) && (has(api.Truncate) || has(api.Append) || has(api.Create)):
		return false
	case has(api.Exclusive) && !has(api.Create):
		return false
	}
	return true
}

func (m *model) opened(l []string, flags int) (answer, func()) {
	has := func(flag int) bool { return flags/flag%2 == 1 }
	number := slices.Index(m.open[:], nil)
	switch {
	case !flagsFit(flags):
		return answer{e: api.ErrFlags}, nil
	case number < 0:
		return answer{e: api.ErrMany}, nil
	case len(l) == 0:
		return answer{e: api.ErrDir}, nil
	}
	parent, e := m.parent(l)
	if e != api.OK {
		return answer{e: e}, nil
	}
	name := l[len(l)-1]
	x := parent.inner[name]
	switch {
	case x != nil && x.inner != nil:
		return answer{e: api.ErrDir}, nil
	case x != nil && has(api.Exclusive):
		return answer{e: api.ErrExists}, nil
	case x == nil && !has(api.Create):
		return answer{e: api.ErrNone}, nil
	case x == nil && len(parent.inner) == 16:
		return answer{e: api.ErrFull}, nil
	}
	return answer{file: number}, func() {
		if x == nil {
			x = &thing{}
			parent.inner[name] = x
		}
		if has(api.Truncate) {
			x.change("")
		}
		m.open[number] = &hand{x: x, read: has(api.Read), write: has(api.Write), atEnd: has(api.Append)}
	}
}

// change gives a file other bytes: from then on there is nothing to fetch for it.
func (x *thing) change(data string) { x.id, x.data = 0, data }

func (m *model) read(h *hand, n int) (answer, func()) {
	switch {
	case n < 0:
		return answer{e: api.ErrFlags}, nil
	case !h.read:
		return answer{e: api.ErrDenied}, nil
	case n > 0 && h.place < 256:
		m.want(h.x)
	}
	data := ""
	for i := h.place; i < len(h.x.data) && len(data) < n; i++ {
		data += h.x.data[i : i+1]
	}
	return answer{data: data}, func() { h.place += len(data) }
}

func (m *model) write(h *hand, data string) (api.Errno, func()) {
	switch {
	case !h.write:
		return api.ErrDenied, nil
	case data == "":
		return api.OK, func() {}
	case len(data) > 256 || !h.atEnd && h.place+len(data) > 256:
		return api.ErrFull, nil
	}
	m.want(h.x)
	place := h.place
	if h.atEnd {
		place = len(h.x.data)
	}
	if place+len(data) > 256 {
		return api.ErrFull, nil
	}
	return api.OK, func() {
		old := []byte(h.x.data)
		for len(old) < place+len(data) {
			old = append(old, 0)
		}
		for i := range len(data) {
			old[place+i] = data[i]
		}
		h.x.change(string(old))
		h.place = place + len(data)
	}
}

func (m *model) seek(h *hand, at int) (api.Errno, func()) {
	if at < 0 || at > 256 {
		return api.ErrFlags, nil
	}
	return api.OK, func() { h.place = at }
}

func (m *model) resize(h *hand, size int) (api.Errno, func()) {
	switch {
	case size < 0 || size > 256:
		return api.ErrFlags, nil
	case !h.write:
		return api.ErrDenied, nil
	case size > 0:
		m.want(h.x)
	}
	return api.OK, func() { h.x.change((h.x.data + strings.Repeat("\x00", 256))[:size]) }
}
