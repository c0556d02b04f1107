package paths

import (
	"strings"
	"testing"

	"canopy/api"
)

func parse(t *testing.T, text string) Path {
	t.Helper()
	p, e := Parse(text)
	if e != api.OK {
		t.Fatalf("Parse(%q): %d", text, e)
	}
	return p
}

func TestParse(t *testing.T) {
	for text, want := range map[string]Path{
		"": {}, "a": {"a"}, "a/b": {"a", "b"}, "a/b/c/d/e": {"a", "b", "c", "d", "e"}, "twelve.bytes/.../ /\xff": {"twelve.bytes", "...", " ", "\xff"},
	} {
		if p := parse(t, text); p != want || p.Text() != text {
			t.Errorf("Parse(%q) = %q, want %q; its text is %q", text, p, want, p.Text())
		}
	}
	for _, text := range []string{
		"/", "//", "/a", "a/", "a//b", ".", "..", "a/.", "../a", "\x00", "a/\x00", "thirteenbytes", "a/b/c/d/e/f", "a/b/c/d/e/", "a/b/c/d/thirteenbytes", strings.Repeat("a/", 1<<20),
	} {
		if p, e := Parse(text); p != Root() || e != api.ErrPath {
			t.Errorf("Parse of %d bytes, %.20q = %q, %d", len(text), text, p, e)
		}
	}
}

func TestParts(t *testing.T) {
	for _, c := range []struct {
		text, parent, name string
		depth              int
	}{
		{"", "", "", 0}, {"a", "", "a", 1}, {"a/b", "a", "b", 2}, {"a/b/c/d/e", "a/b/c/d", "e", 5},
	} {
		p := parse(t, c.text)
		if p.Parent() != parse(t, c.parent) || p.Name() != c.name || p.Depth() != c.depth {
			t.Errorf("%q: %q, %q, %d", c.text, p.Parent(), p.Name(), p.Depth())
		}
		if c.depth > 0 && p.Parent().Child(c.name) != p {
			t.Errorf("%q: %q", c.text, p.Parent().Child(c.name))
		}
	}
}

func TestBelow(t *testing.T) {
	for _, c := range []struct {
		p, q string
		want bool
	}{
		{"a", "", true}, {"a/b", "a", true}, {"a/b/c/d/e", "a", true}, {"a/b/c/d/e", "a/b/c/d", true},
		{"", "", false}, {"", "a", false}, {"a", "a", false}, {"a", "a/b", false}, {"ab", "a", false}, {"ab/c", "a", false}, {"b/a", "a", false}, {"a/b/c", "a/c", false}, {"a/b/c/d/e", "a/b/c/d/e", false},
	} {
		if parse(t, c.p).Below(parse(t, c.q)) != c.want {
			t.Errorf("%q below %q: not %v", c.p, c.q, c.want)
		}
	}
}

func TestMoved(t *testing.T) {
	for _, c := range []struct{ p, from, to, want string }{
		{"a", "a", "b", "b"}, {"a/b", "a", "c", "c/b"}, {"a/b/c", "a/b", "d", "d/c"}, {"a/b", "a", "c/d/e/f", "c/d/e/f/b"}, {"a/b/c/d/e", "a/b/c/d", "x", "x/e"}, {"a/b/c/d/e", "a", "x", "x/b/c/d/e"},
	} {
		if got := parse(t, c.p).Moved(parse(t, c.from), parse(t, c.to)); got != parse(t, c.want) {
			t.Errorf("%q, from %q to %q: %q, want %q", c.p, c.from, c.to, got, c.want)
		}
	}
}
