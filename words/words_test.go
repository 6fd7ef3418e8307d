package words_test

import (
	"bytes"
	"math"
	"strings"
	"testing"

	"sentinel/words"
)

// W1: the highest byte first, eight where nothing else is said.
func TestNumbers(t *testing.T) {
	for _, c := range []struct {
		n    int
		want string
	}{
		{0, "\x00\x00\x00\x00\x00\x00\x00\x00"},
		{1, "\x00\x00\x00\x00\x00\x00\x00\x01"},
		{0x0123456789abcdef, "\x01\x23\x45\x67\x89\xab\xcd\xef"},
		{math.MaxInt, "\x7f\xff\xff\xff\xff\xff\xff\xff"},
	} {
		b := words.Eight(c.n)
		if !bytes.Equal(b, []byte(c.want)) {
			t.Errorf("Eight(%d): %x", c.n, b)
		}
		if n, is := words.Number(b); n != c.n || !is {
			t.Errorf("Number(%x): %d, %v", b, n, is)
		}
	}
	if n, is := words.Number([]byte{1, 2}); n != 258 || !is {
		t.Errorf("Number of two bytes: %d, %v", n, is)
	}
	if n, is := words.Number(nil); n != 0 || !is {
		t.Errorf("Number of none: %d, %v", n, is)
	}
	for _, b := range []string{"\x80\x00\x00\x00\x00\x00\x00\x00", "\x00\x00\x00\x00\x00\x00\x00\x00\x01"} {
		if n, is := words.Number([]byte(b)); n != 0 || is {
			t.Errorf("Number(%x): %d, %v", b, n, is)
		}
	}
}

// W2: 1 to 16 bytes, from 33 to 126; passwords of 64 bytes at most.
func TestNames(t *testing.T) {
	for _, name := range []string{"a", "!", "~", "!~", strings.Repeat("x", 16)} {
		if !words.IsName(name) {
			t.Errorf("IsName(%q): false", name)
		}
	}
	for _, name := range []string{"", " ", "a b", "a\x7f", "\x00", "é", strings.Repeat("x", 17), "ab\x80"} {
		if words.IsName(name) {
			t.Errorf("IsName(%q): true", name)
		}
	}
	if !words.IsPassword(nil) || !words.IsPassword(make([]byte, 64)) || words.IsPassword(make([]byte, 65)) {
		t.Error("IsPassword")
	}
}
