package objects

import (
	"slices"
	"strconv"
	"testing"

	"canopy/api"
)

// poolOf makes a pool of so many files, of their numbers.
func poolOf(t *testing.T, n int) *Pool {
	t.Helper()
	p := NewPool()
	for i := range n {
		if _, e := p.PutFile(strconv.Itoa(i)); e != api.OK {
			t.Fatalf("PutFile: %d", e)
		}
	}
	return p
}

// P14: what is in the pool is told, what is not is drafted once, and comes into the pool under the ID that was told.
func TestDraft(t *testing.T) {
	p := poolOf(t, 3)
	d := p.NewDraft()
	if id := d.File("1"); id != 2 {
		t.Errorf("a file of the pool: %d", id)
	}
	x := d.File("x")
	inner := []api.Entry{{Name: "a", Kind: api.File, ID: x}, {Name: "b", Kind: api.File, ID: 1}}
	y := d.Dir(inner)
	outer := []api.Entry{{Name: "d", Kind: api.Dir, ID: y}}
	z := d.Dir(outer)
	if d.File("x") != x || d.Dir(slices.Clone(inner)) != y || d.Dir(outer) != z || x == y || y == z || p.Count() != 3 {
		t.Errorf("drafted %d, %d, %d; %d objects", x, y, z, p.Count())
	}
	inner[0].Name = "!"
	if e := d.Keep(); e != api.OK || p.Count() != 6 {
		t.Errorf("Keep() = %d; %d objects", e, p.Count())
	}
	if data, e := p.File(x); data != "x" || e != api.OK {
		t.Errorf("File(%d) = %q, %d", x, data, e)
	}
	if l, e := p.Dir(y); len(l) != 2 || l[0].Name != "a" || e != api.OK || p.Height(y) != 1 {
		t.Errorf("Dir(%d) = %v, %d", y, l, e)
	}
	if l, e := p.Dir(z); !slices.Equal(l, outer) || e != api.OK || p.Height(z) != 2 {
		t.Errorf("Dir(%d) = %v, %d", z, l, e)
	}
	later := p.NewDraft()
	if later.File("x") != x || later.Dir(outer) != z || later.Keep() != api.OK || p.Count() != 6 {
		t.Errorf("the same again: %d objects", p.Count())
	}
}

// P14: all of a draft comes, or nothing of it.
func TestDraftRoom(t *testing.T) {
	for _, c := range []struct {
		before int
		want   api.Errno
	}{{api.MaxObjects - 3, api.OK}, {api.MaxObjects - 2, api.ErrFull}, {api.MaxObjects - 1, api.ErrFull}, {api.MaxObjects, api.ErrFull}} {
		p := poolOf(t, c.before)
		d := p.NewDraft()
		x := d.File("x")
		d.Dir([]api.Entry{{Name: "a", Kind: api.File, ID: x}})
		d.Dir(nil)
		after := c.before
		if c.want == api.OK {
			after = api.MaxObjects
		}
		if e := d.Keep(); e != c.want || p.Count() != after {
			t.Errorf("%d objects ahead: Keep() = %d; %d objects", c.before, e, p.Count())
		}
		if e := p.NewDraft().Keep(); e != api.OK || p.Count() != after {
			t.Errorf("a draft of nothing: %d", e)
		}
	}
}
