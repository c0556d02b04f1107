package names

import (
	"strings"
	"testing"
)

func TestValid(t *testing.T) {
	for _, name := range []string{"a", " ", "...", ".a", "a.", "..a", "\\", "\xff\xfe", "twelve.bytes", strings.Repeat("é", 6)} {
		if !Valid(name) {
			t.Errorf("%q is a name", name)
		}
	}
	for _, name := range []string{"", ".", "..", "/", "a/b", "/a", "a/", "\x00", "a\x00b", "thirteenbytes", strings.Repeat("é", 7), strings.Repeat("x", 1<<20)} {
		if Valid(name) {
			t.Errorf("%q is no name", name)
		}
	}
}

func TestEveryByte(t *testing.T) {
	for b := range 256 {
		alone, between := string([]byte{byte(b)}), string([]byte{'x', byte(b), 'y'})
		bad := b == 0 || b == '/'
		if Valid(alone) != (!bad && b != '.') {
			t.Errorf("%q: %v", alone, Valid(alone))
		}
		if Valid(between) != !bad {
			t.Errorf("%q: %v", between, Valid(between))
		}
	}
}
