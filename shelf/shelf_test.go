package shelf

import (
	"testing"

	"canopy/api"
)

// TestGet: what came is kept, whatever it is; what failed to come is fetched again.
func TestGet(t *testing.T) {
	fetches, fails := 0, true
	s := New(func(id api.ID) (string, api.Errno) {
		fetches++
		if fails {
			return "", api.ErrStore
		}
		return []string{"", "one", "two"}[id], api.OK
	})
	for _, c := range []struct {
		id      api.ID
		fails   bool
		want    string
		e       api.Errno
		fetches int
	}{
		{1, true, "", api.ErrStore, 1}, {1, true, "", api.ErrStore, 2}, {1, false, "one", api.OK, 3}, {1, true, "one", api.OK, 3},
		{2, true, "", api.ErrStore, 4}, {2, false, "two", api.OK, 5}, {1, false, "one", api.OK, 5}, {2, false, "two", api.OK, 5},
		{0, false, "", api.OK, 6}, {0, true, "", api.OK, 6},
	} {
		fails = c.fails
		if got, e := s.Get(c.id); got != c.want || e != c.e || fetches != c.fetches {
			t.Errorf("Get(%d) = %q, %d after %d fetches, want %+v", c.id, got, e, fetches, c)
		}
	}
}

// TestEntries: no entries are kept like any others.
func TestEntries(t *testing.T) {
	fetches := 0
	s := New(func(api.ID) ([]api.Entry, api.Errno) {
		fetches++
		return nil, api.OK
	})
	for range 3 {
		if l, e := s.Get(7); len(l) != 0 || e != api.OK || fetches != 1 {
			t.Errorf("Get = %v, %d after %d fetches", l, e, fetches)
		}
	}
}
