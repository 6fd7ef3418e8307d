package sponge_test

import (
	"bytes"
	"encoding/hex"
	"math"
	"math/bits"
	"strings"
	"testing"

	"sentinel/api"
	"sentinel/sponge"
)

func text(s string) []byte { return []byte(s) }

func told(t *testing.T, what string, got api.Sum, want string) {
	t.Helper()
	if hex.EncodeToString(got[:]) != want {
		t.Errorf("%s: %x, not %s", what, got, want)
	}
}

// P301, by rows that were reckoned apart.
func TestMix(t *testing.T) {
	for _, c := range []struct{ row, want [8]uint32 }{
		{[8]uint32{}, [8]uint32{0xa4667508, 0x97a261b8, 0x1ffb5a24, 0xffa11a8b, 0x97efdf6f, 0x2364b139, 0x9a7b3be5, 0x0696264e}},
		{[8]uint32{1, 2, 3, 4, 5, 6, 7, 8}, [8]uint32{0x38bced9f, 0x094d1047, 0x683e8a2d, 0x6626c3b9, 0xa733edfa, 0xf55e9e65, 0x9b6d7f29, 0x237e31df}},
	} {
		if got := sponge.Mix(c.row); got != c.want {
			t.Errorf("Mix(%v): %08x", c.row, got)
		}
	}
}

// unmix goes Mix's way back.
func unmix(s [8]uint32) [8]uint32 {
	back := func(a, b, c, d *uint32) {
		*b = bits.RotateLeft32(*b, -7) ^ *c
		*c -= *d
		*d = bits.RotateLeft32(*d, -8) ^ *a
		*a -= *b
		*b = bits.RotateLeft32(*b, -12) ^ *c
		*c -= *d
		*d = bits.RotateLeft32(*d, -16) ^ *a
		*a -= *b
	}
	for r := uint32(8); r > 0; r-- {
		back(&s[4], &s[1], &s[6], &s[3])
		back(&s[0], &s[5], &s[2], &s[7])
		back(&s[4], &s[5], &s[6], &s[7])
		back(&s[0], &s[1], &s[2], &s[3])
		s[0] ^= r
	}
	return s
}

// P304: there is a way back from each row, so that no two have one answer.
func TestMixBack(t *testing.T) {
	var row [8]uint32
	for i := range 2000 {
		row[i%8] += uint32(i) * 2654435761
		if got := unmix(sponge.Mix(row)); got != row {
			t.Fatalf("%v: back %v", row, got)
		}
	}
}

// P302
func TestSponge(t *testing.T) {
	told(t, "New of nothing", sponge.New(nil).Sum(), "bb9e1234c20b5deff0d74508e741e5ec")
	told(t, "New of an empty key", sponge.New([]byte{}).Sum(), "bb9e1234c20b5deff0d74508e741e5ec")
	for pass, want := range map[string]string{"123456789012345": "0a0e8470c7627fb6034d3f8baa7d6d8a", "1234567890123456": "27516b2e7ee742920504e5a353a5ab30"} {
		s := sponge.New(text("k"))
		s.Write(text(pass))
		told(t, "Sum of "+pass, s.Sum(), want)
		told(t, "a second Sum of "+pass, s.Sum(), want)
	}
	s := sponge.New(text("k"))
	s.Write(text("12345678901"))
	s.Sum()
	s.Write(text("2345"))
	told(t, "Sum behind a Sum", s.Sum(), "0a0e8470c7627fb6034d3f8baa7d6d8a")
}

// P304: in any pieces one Sum.
func TestPieces(t *testing.T) {
	all := make([]byte, 100)
	for i := range all {
		all[i] = byte(i * 7)
	}
	whole := sponge.New(text("key"))
	whole.Write(all)
	for size := 1; size <= len(all); size++ {
		s := sponge.New(text("key"))
		for rest := all; len(rest) > 0; {
			n := min(size, len(rest))
			s.Write(rest[:n])
			s.Write(nil)
			rest = rest[n:]
		}
		if s.Sum() != whole.Sum() {
			t.Errorf("in pieces of %d: another Sum", size)
		}
	}
}

// P303: Of, Mac
func TestOfMac(t *testing.T) {
	if sponge.Of() != sponge.New(nil).Sum() {
		t.Error("Of no parts is not Sum of New of nothing")
	}
	told(t, "Of()", sponge.Of(), "bb9e1234c20b5deff0d74508e741e5ec")
	told(t, "Of of an empty part", sponge.Of(nil), "37b09dca561f80830ca5174d3c5de28f")
	told(t, "Of a", sponge.Of(text("a")), "506d84e3bd3c070da8518df1723b373c")
	told(t, "Of ab, c", sponge.Of(text("ab"), text("c")), "42e7607e5cba36d2aeec9bab9be14038")
	told(t, "Of a, bc", sponge.Of(text("a"), text("bc")), "150b9b49c6653a6908b12eaf750db159")
	told(t, "Of abc", sponge.Of(text("abc")), "2b1c2e7b7fc03639b2670c750ddd788f")
	told(t, "Of 7", sponge.Of(text("0123456")), "776375ad1725ba4ec5988d2ecccf459e")
	told(t, "Of 8", sponge.Of(text("01234567")), "4f74890e255ababf19475ead348f2dc3")
	told(t, "Of 81", sponge.Of(text(strings.Repeat("012345678", 9))), "cf04a2e95ce3ec87b10a15c2e1996b6e")
	told(t, "Mac", sponge.Mac(text("key")), "f122091e7a204b82ac8758d4d0b7f6af")
	told(t, "Mac a", sponge.Mac(text("key"), text("a"), nil), "d3363bd882c185d3c4231cbc880a24cd")
	told(t, "Mac by 8", sponge.Mac(text("12345678"), text("x")), "ff43b045c24629d55964199ad12cd789")
	told(t, "Mac by 9", sponge.Mac(text("123456789"), text("x")), "73c8d5c48178d966304451e275140601")
}

// P303: Stretch
func TestStretch(t *testing.T) {
	for times, want := range map[int]string{
		math.MinInt:     "23d3992e7d9c74594047395ac290cf5d",
		-1:              "23d3992e7d9c74594047395ac290cf5d",
		0:               "23d3992e7d9c74594047395ac290cf5d",
		1:               "23d3992e7d9c74594047395ac290cf5d",
		2:               "bd2ddaff319bd5b77903680b9412e427",
		3:               "451b0f8d22920f651a5ad2f9537f9d13",
		1000:            "b69a82e5294fb30b79553214856671f7",
		1001:            "b69a82e5294fb30b79553214856671f7",
		math.MaxInt - 1: "b69a82e5294fb30b79553214856671f7",
	} {
		told(t, "Stretch", sponge.Stretch(text("pass"), text("salt"), times), want)
	}
	if sponge.Stretch(text("pass"), text("salt"), 999) == sponge.Stretch(text("pass"), text("salt"), 1000) {
		t.Error("Stretch of 999 is as of 1000")
	}
}

// P303: Stream
func TestStream(t *testing.T) {
	want, _ := hex.DecodeString("2f0f2eb14e822ea7c843062ee4c9a036025992f37dc1c76f8426098c6f2bc718689138e2348e0714")
	for n := range 41 {
		if got := sponge.Stream(text("k"), n); !bytes.Equal(got, want[:n]) {
			t.Errorf("Stream of %d: %x", n, got)
		}
	}
	if got := sponge.Stream(text("k"), 1000); len(got) != 1000 || !bytes.Equal(got[:40], want) {
		t.Errorf("Stream of 1000: %d bytes", len(got))
	}
	for _, n := range []int{-1, 1001, math.MinInt, math.MaxInt} {
		if got := sponge.Stream(text("k"), n); len(got) != 0 {
			t.Errorf("Stream of %d: %d bytes", n, len(got))
		}
	}
}

// P303: Same
func TestSame(t *testing.T) {
	for _, c := range []struct {
		a, b string
		want bool
	}{{"", "", true}, {"a", "a", true}, {"a", "b", false}, {"a", "", false}, {"", "a", false}, {"abc", "abd", false}, {"abc", "Abc", false}, {"abc", "ab", false}} {
		if got := sponge.Same(text(c.a), text(c.b)); got != c.want {
			t.Errorf("Same(%q, %q): %v", c.a, c.b, got)
		}
	}
	if !sponge.Same(nil, []byte{}) {
		t.Error("Same of no list and an empty one: false")
	}
}

// P2: what is handed in, its spare room too, stays as it was; what is written is not kept.
func TestHandedIn(t *testing.T) {
	room := text("0123456789abcdef0123456789abcdef")
	was := string(room)
	part := room[:5]
	s := sponge.New(part)
	s.Write(part)
	sum := s.Sum()
	sponge.Of(part, part)
	sponge.Mac(part, part)
	sponge.Stretch(part, part, 3)
	sponge.Stream(part, 20)
	if string(room) != was {
		t.Errorf("changed: %q", room)
	}
	for i := range room {
		room[i] = 0
	}
	if s.Sum() != sum {
		t.Error("what was written is kept")
	}
}

// P7
func TestSideBySide(t *testing.T) {
	a, b := sponge.New(text("k")), sponge.New(text("k"))
	a.Write(text("1234567"))
	b.Write(text("other"))
	a.Write(text("89012345"))
	told(t, "beside another", a.Sum(), "0a0e8470c7627fb6034d3f8baa7d6d8a")
}
