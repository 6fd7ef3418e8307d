package wire_test

import (
	"bytes"
	"math"
	"reflect"
	"strings"
	"testing"

	"sentinel/api"
	"sentinel/wire"
)

func fill(n int, c byte) []byte { return bytes.Repeat([]byte{c}, n) }

// frame is a message by hand: how many bytes follow, the kind, and fields that are written out.
func frame(kind byte, fields ...string) []byte {
	body := string(rune(kind)) + strings.Join(fields, "")
	return append([]byte{byte(len(body) >> 8), byte(len(body))}, body...)
}

// known are messages, and the bytes that they are.
func known() []struct {
	m api.Msg
	b []byte
} {
	return []struct {
		m api.Msg
		b []byte
	}{
		{api.Msg{Kind: api.MDone}, []byte{0, 1, 7}},
		{api.Msg{Kind: api.MHello, Proto: api.Srp, Name: "ann", A: api.Num{0x01020304}},
			frame(1, "\x01\x01\x01", "\x02\x03ann", "\x03\x04\x01\x02\x03\x04")},
		{api.Msg{Kind: api.MHello, Proto: api.Opq, Name: "!", A: api.Num{1}, B: api.Num{1<<32 - 1}},
			frame(1, "\x01\x01\x02", "\x02\x01!", "\x03\x04\x00\x00\x00\x01", "\x04\x04\xff\xff\xff\xff")},
		{api.Msg{Kind: api.MOffer, Proto: api.Srp, B: api.Num{256}, Salt: fill(16, 'a')},
			frame(2, "\x01\x01\x01", "\x04\x04\x00\x00\x01\x00", "\x05\x10"+strings.Repeat("a", 16))},
		{api.Msg{Kind: api.MOffer, Proto: api.Opq, A: api.Num{7}, B: api.Num{8}, Seal: fill(48, 'b')},
			frame(2, "\x01\x01\x02", "\x03\x04\x00\x00\x00\x07", "\x04\x04\x00\x00\x00\x08", "\x06\x30"+strings.Repeat("b", 48))},
		{api.Msg{Kind: api.MProve, Tag: fill(16, 't')}, frame(3, "\x07\x10"+strings.Repeat("t", 16))},
		{api.Msg{Kind: api.MProved, Tag: []byte("g"), Token: fill(80, 'k')}, frame(4, "\x07\x01g", "\x08\x50"+strings.Repeat("k", 80))},
		{api.Msg{Kind: api.MProved, Token: []byte("k")}, frame(4, "\x08\x01k")},
		{api.Msg{Kind: api.MError, E: api.BadFrame}, frame(5, "\x0b\x01\x01")},
		{api.Msg{Kind: api.MError, E: api.Range}, frame(5, "\x0b\x01\x0b")},
		{api.Msg{Kind: api.MEnrol, Proto: api.Opq, Name: strings.Repeat("~", 16), Record: fill(120, 'r')},
			frame(6, "\x01\x01\x02", "\x02\x10"+strings.Repeat("~", 16), "\x09\x78"+strings.Repeat("r", 120))},
		{api.Msg{Kind: api.MCheck, Token: []byte("tok"), Channel: 1}, frame(8, "\x08\x03tok", "\x0a\x08\x00\x00\x00\x00\x00\x00\x00\x01")},
		{api.Msg{Kind: api.MRevoke, Token: []byte("tok")}, frame(9, "\x08\x03tok")},
		{api.Msg{Kind: api.MDelete, Token: []byte("tok")}, frame(10, "\x08\x03tok")},
		{api.Msg{Kind: api.MChange, Proto: api.Srp, Token: []byte("tok"), Record: []byte("rec")}, frame(11, "\x01\x01\x01", "\x08\x03tok", "\x09\x03rec")},
		{api.Msg{Kind: api.MRefresh, Token: []byte("tok"), Channel: math.MaxInt}, frame(12, "\x08\x03tok", "\x0a\x08\x7f\xff\xff\xff\xff\xff\xff\xff")},
	}
}

// plain makes no list and an empty one the same.
func plain(m api.Msg) api.Msg {
	for _, l := range []*[]byte{&m.Salt, &m.Seal, &m.Tag, &m.Token, &m.Record} {
		if len(*l) == 0 {
			*l = nil
		}
	}
	return m
}

func plainRecord(r api.Record) api.Record {
	for _, l := range []*[]byte{&r.Salt, &r.Seal} {
		if len(*l) == 0 {
			*l = nil
		}
	}
	return r
}

// P501: there and back, as bytes that are written out.
func TestKnown(t *testing.T) {
	for _, c := range known() {
		if !wire.Right(c.m) {
			t.Errorf("Right(%v): false", c.m)
		}
		if b, is := wire.Encode(c.m); !is || !bytes.Equal(b, c.b) {
			t.Errorf("Encode(%v): %x, %v", c.m, b, is)
		}
		if m, is := wire.Decode(c.b); !is || !reflect.DeepEqual(plain(m), plain(c.m)) {
			t.Errorf("Decode(%x): %v, %v", c.b, m, is)
		}
	}
}

// withs lay something into each field, by its number less 1.
var withs = []func(*api.Msg){
	func(m *api.Msg) { m.Proto = api.Srp },
	func(m *api.Msg) { m.Name = "n" },
	func(m *api.Msg) { m.A = api.Num{1} },
	func(m *api.Msg) { m.B = api.Num{1} },
	func(m *api.Msg) { m.Salt = []byte{0} },
	func(m *api.Msg) { m.Seal = []byte{0} },
	func(m *api.Msg) { m.Tag = []byte{0} },
	func(m *api.Msg) { m.Token = []byte{0} },
	func(m *api.Msg) { m.Record = []byte{0} },
	func(m *api.Msg) { m.Channel = 1 },
	func(m *api.Msg) { m.E = 1 },
}

// P501: of all ways in which fields are there or not, just those that the document names are Right.
func TestRight(t *testing.T) {
	right := map[[2]int][]string{
		{1, 1}: {"1 2 3"}, {1, 2}: {"1 2 3 4"}, {2, 1}: {"1 4 5"}, {2, 2}: {"1 3 4 6"}, {3, 0}: {"7"}, {4, 0}: {"8", "7 8"}, {5, 0}: {"11"},
		{6, 1}: {"1 2 9"}, {6, 2}: {"1 2 9"}, {7, 0}: {""}, {8, 0}: {"8 10"}, {9, 0}: {"8"}, {10, 0}: {"8"}, {11, 1}: {"1 8 9"}, {11, 2}: {"1 8 9"}, {12, 0}: {"8 10"},
	}
	for kind := -1; kind <= 14; kind++ {
		for proto := range 3 {
			for bits := range 1 << 11 {
				m := api.Msg{Kind: kind}
				var names []string
				for i, with := range withs {
					if bits>>i&1 == 1 {
						with(&m)
						names = append(names, []string{"1", "2", "3", "4", "5", "6", "7", "8", "9", "10", "11"}[i])
					}
				}
				if m.Proto != 0 {
					m.Proto = proto
				}
				if m.Proto == 0 && bits&1 == 1 {
					continue
				}
				want := false
				for _, s := range right[[2]int{kind, m.Proto}] {
					want = want || s == strings.Join(names, " ")
				}
				b, is := wire.Encode(m)
				if wire.Right(m) != want || is != want || !is && b != nil {
					t.Fatalf("%v: Right %v, Encode %x, %v", m, wire.Right(m), b, is)
				}
			}
		}
	}
}

// P501: the bounds of what is there.
func TestBounds(t *testing.T) {
	base := map[int]api.Msg{}
	for _, c := range known() {
		base[c.m.Kind*10+c.m.Proto] = c.m
	}
	for i, c := range []struct {
		of   int
		set  func(*api.Msg)
		want bool
	}{
		{11, func(m *api.Msg) { m.Proto = 3 }, false},
		{11, func(m *api.Msg) { m.Proto = -1 }, false},
		{11, func(m *api.Msg) { m.Proto = 257 }, false},
		{61, func(m *api.Msg) { m.Proto = 256 }, false},
		{11, func(m *api.Msg) { m.Name = strings.Repeat("n", 16) }, true},
		{11, func(m *api.Msg) { m.Name = strings.Repeat("n", 17) }, false},
		{11, func(m *api.Msg) { m.Name = "a b" }, false},
		{11, func(m *api.Msg) { m.Name = "a\x7f" }, false},
		{11, func(m *api.Msg) { m.A = api.Num{1<<32 - 1} }, true},
		{11, func(m *api.Msg) { m.A = api.Num{0, 1} }, false},
		{12, func(m *api.Msg) { m.B = api.Num{7: 1} }, false},
		{12, func(m *api.Msg) { m.B = api.Num{0, 1} }, false},
		{21, func(m *api.Msg) { m.Salt = fill(17, 1) }, false},
		{22, func(m *api.Msg) { m.Seal = fill(48, 1) }, true},
		{22, func(m *api.Msg) { m.Seal = fill(49, 1) }, false},
		{30, func(m *api.Msg) { m.Tag = fill(16, 1) }, true},
		{30, func(m *api.Msg) { m.Tag = fill(17, 1) }, false},
		{40, func(m *api.Msg) { m.Tag = fill(17, 1) }, false},
		{90, func(m *api.Msg) { m.Token = fill(80, 1) }, true},
		{90, func(m *api.Msg) { m.Token = fill(81, 1) }, false},
		{90, func(m *api.Msg) { m.Token = fill(336, 1) }, false},
		{111, func(m *api.Msg) { m.Record = fill(120, 1) }, true},
		{111, func(m *api.Msg) { m.Record = fill(121, 1) }, false},
		{80, func(m *api.Msg) { m.Channel = -1 }, false},
		{80, func(m *api.Msg) { m.Channel = math.MinInt }, false},
		{50, func(m *api.Msg) { m.E = 12 }, false},
		{50, func(m *api.Msg) { m.E = -1 }, false},
		{50, func(m *api.Msg) { m.E = 257 }, false},
		{50, func(m *api.Msg) { m.E = 256 }, false},
		{70, func(m *api.Msg) { m.E = -1 }, false},
	} {
		m, is := base[c.of]
		if c.of == 61 {
			m, is = base[62], true
			m.Proto = api.Srp
		}
		if !is {
			t.Fatalf("no message %d", c.of)
		}
		c.set(&m)
		if got := wire.Right(m); got != c.want {
			t.Errorf("case %d: Right(%v): %v", i, m, got)
		}
		if _, is := wire.Encode(m); is != c.want {
			t.Errorf("case %d: Encode: %v", i, is)
		}
	}
	// 1 kind, 3 Proto, 2 and 80 Token, 2 and 112 Record: 200 bytes follow
	m := api.Msg{Kind: api.MChange, Proto: api.Opq, Token: fill(80, 1), Record: fill(112, 1)}
	if b, is := wire.Encode(m); !is || len(b) != 202 || b[1] != 200 {
		t.Errorf("Encode of 200: %v", is)
	}
	m.Record = fill(113, 1)
	if b, is := wire.Encode(m); is || b != nil || !wire.Right(m) {
		t.Errorf("Encode of 201: %v", is)
	}
}

// P501: what is no Encode is not read: each byte changed, left out, one more; fields twice, turned, of nothing.
func TestDecodeOthers(t *testing.T) {
	for _, c := range known() {
		for i := range c.b {
			for _, b := range [][]byte{c.b[:i], append(append([]byte{}, c.b[:i]...), c.b[i+1:]...)} {
				if m, is := wire.Decode(b); is {
					if again, _ := wire.Encode(m); !bytes.Equal(again, b) {
						t.Errorf("Decode(%x): %v", b, m)
					}
				}
			}
			for x := 1; x < 256; x++ {
				b := append([]byte{}, c.b...)
				b[i] ^= byte(x)
				if m, is := wire.Decode(b); is {
					if again, _ := wire.Encode(m); !bytes.Equal(again, b) {
						t.Errorf("Decode(%x): %v", b, m)
					}
				} else if !reflect.DeepEqual(m, api.Msg{}) {
					t.Errorf("Decode(%x): false beside %v", b, m)
				}
			}
		}
	}
	for _, b := range [][]byte{
		nil, {}, {0}, {0, 0}, {0, 1}, {0, 1, 0}, {0, 1, 13}, {0, 1, 7, 0}, {0, 2, 7}, {1, 1, 7},
		frame(7, "\x01"), frame(7, "\x05\x00"), frame(9, "\x08\x00"), frame(9, "\x08\x01k", "\x08\x01k"), frame(9, "\x08\x05k"),
		frame(1, "\x02\x01n", "\x01\x01\x01", "\x03\x04\x00\x00\x00\x01"), frame(1, "\x01\x01\x01", "\x02\x01n", "\x03\x04\x00\x00\x00\x00"),
		frame(1, "\x01\x01\x01", "\x02\x01n", "\x03\x01\x01"), frame(1, "\x01\x01\x01", "\x02\x01n", "\x03\x05\x00\x00\x00\x00\x01"),
		frame(1, "\x01\x02\x00\x01", "\x02\x01n", "\x03\x04\x00\x00\x00\x01"), frame(5, "\x0b\x01\x0c"), frame(9, "\x08\x01k", "\x0c\x01k"),
		frame(8, "\x08\x01k", "\x0a\x08\x80\x00\x00\x00\x00\x00\x00\x00"), frame(8, "\x08\x01k", "\x0a\x08\x00\x00\x00\x00\x00\x00\x00\x00"),
	} {
		if m, is := wire.Decode(b); is || !reflect.DeepEqual(m, api.Msg{}) {
			t.Errorf("Decode(%x): %v, %v", b, m, is)
		}
	}
}

// P2: answers are memory of their own.
func TestOwnMemory(t *testing.T) {
	m := api.Msg{Kind: api.MProved, Tag: []byte("tag"), Token: []byte("token")}
	b, _ := wire.Encode(m)
	was := string(b)
	m.Tag[0], m.Token[0] = 'x', 'x'
	if string(b) != was {
		t.Error("Encode shares memory")
	}
	read, _ := wire.Decode(b)
	_ = append(read.Tag, "more and more and more"...)
	clear(b)
	if string(read.Tag) != "tag" || string(read.Token) != "token" {
		t.Errorf("Decode shares memory: %v", read)
	}
	s := wire.New()
	in := []byte(was)
	s.Write(in)
	clear(in)
	if read, is := s.Next(); !is || string(read.Token) != "token" {
		t.Errorf("a stream keeps what is handed in: %v", read)
	}
}

// P502, P504: in any pieces.
func TestStream(t *testing.T) {
	var all []byte
	for _, c := range known() {
		all = append(all, c.b...)
	}
	for size := 1; size < len(all)+1; size += 1 + size/20 {
		s := wire.New()
		var got []api.Msg
		for rest := all; len(rest) > 0; {
			n := min(size, len(rest))
			if !s.Write(rest[:n]) {
				t.Fatal("Write: false")
			}
			rest = rest[n:]
			for m, is := s.Next(); is; m, is = s.Next() {
				got = append(got, m)
			}
		}
		if len(got) != len(known()) || s.Bad() {
			t.Fatalf("pieces of %d: %d messages, bad %v", size, len(got), s.Bad())
		}
		for i, c := range known() {
			if !reflect.DeepEqual(plain(got[i]), plain(c.m)) {
				t.Fatalf("pieces of %d: %v", size, got[i])
			}
		}
	}
}

// P502: what makes a stream bad, and when.
func TestBadStream(t *testing.T) {
	for _, c := range []struct {
		first string
		bad   bool
	}{
		{"", false}, {"\x00", false}, {"\x01", false}, {"\x00\xc8", false}, {"\x00\xc8\x07", false}, {"\x00\xc9", true}, {"\x01\x00", true}, {"\x01\x05", true}, {"\xff\xff", true},
		{"\x00\x00", true}, {"\x00\x01\x00", true}, {"\x00\x01\x0d", true}, {"\x00\x02\x07", false}, {"\x00\x02\x07\x00", true},
	} {
		s := wire.New()
		done := []byte{0, 1, 7}
		s.Write(append(done, c.first...))
		if m, is := s.Next(); !is || m.Kind != api.MDone || s.Bad() {
			t.Fatalf("%q: the message ahead: %v, %v", c.first, m, is)
		}
		if s.Bad() {
			t.Errorf("%q: bad before it is asked", c.first)
		}
		if m, is := s.Next(); is || !reflect.DeepEqual(m, api.Msg{}) || s.Bad() != c.bad {
			t.Errorf("%q: %v, %v, bad %v", c.first, m, is, s.Bad())
		}
		if s.Write(done) == c.bad || s.Bad() != c.bad {
			t.Errorf("%q: Write behind: %v", c.first, !c.bad)
		}
		if c.bad {
			if _, is := s.Next(); is || !s.Bad() {
				t.Errorf("%q: not bad for good", c.first)
			}
		}
	}
}

// P502: 100000 bytes
func TestStreamFull(t *testing.T) {
	done := []byte{0, 1, 7}
	s := wire.New()
	for range 33333 {
		if !s.Write(done) {
			t.Fatal("Write: false")
		}
		if _, is := s.Next(); !is {
			t.Fatal("Next: false")
		}
	}
	if !s.Write(nil) || !s.Write(done) || s.Bad() {
		t.Error("99999 bytes are too many")
	}
	for range 2 {
		if s.Write(nil) || !s.Bad() {
			t.Error("100002 bytes are not too many")
		}
		if _, is := s.Next(); is {
			t.Error("Next of a bad stream")
		}
	}
	s = wire.New()
	if !s.Write(bytes.Repeat(done, 40000)) || s.Bad() {
		t.Error("all at once")
	}
	if _, is := s.Next(); !is || s.Bad() {
		t.Error("Next of them")
	}
	if s.Write(nil) || !s.Bad() {
		t.Error("not too many")
	}
	if _, is := s.Next(); is {
		t.Error("Next of a bad stream")
	}
	s = wire.New()
	s.Write(fill(100000, 0))
	if s.Bad() {
		t.Error("bad before it is asked")
	}
	if s.Write(nil) || !s.Bad() {
		t.Error("100000 bytes are not too many")
	}
}

func sample() api.Record {
	return api.Record{Proto: api.Srp, Name: "ann", Salt: []byte("salt"), Seal: []byte("se"), V: api.Num{0x0a0b0c0d}, Key: api.Num{0x01020304},
		Tokens: 5, At: 0x1122, Revoked: math.MaxInt}
}

// P503
func TestRecord(t *testing.T) {
	want := "\x01\x03ann\x04salt\x02se\x0a\x0b\x0c\x0d\x01\x02\x03\x04\x05\x00\x00\x00\x00\x00\x00\x11\x22\x7f\xff\xff\xff\xff\xff\xff\xff"
	b, is := wire.Record(sample())
	if !is || string(b) != want {
		t.Errorf("Record: %q, %v", b, is)
	}
	r, is := wire.ReadRecord([]byte(want))
	if !is || !reflect.DeepEqual(r, sample()) {
		t.Errorf("ReadRecord: %v, %v", r, is)
	}
	least := api.Record{Proto: api.Opq, Name: "n"}
	b, is = wire.Record(least)
	if !is || string(b) != "\x02\x01n\x00\x00"+strings.Repeat("\x00", 25) {
		t.Errorf("Record: %q, %v", b, is)
	}
	if r, is := wire.ReadRecord(b); !is || !reflect.DeepEqual(plainRecord(r), least) {
		t.Errorf("ReadRecord: %v, %v", r, is)
	}
}

// P503: bounds
func TestRecordBounds(t *testing.T) {
	for i, c := range []struct {
		set  func(*api.Record)
		want bool
	}{
		{func(r *api.Record) {}, true},
		{func(r *api.Record) { r.Proto = 2 }, true},
		{func(r *api.Record) { r.Proto = 0 }, false},
		{func(r *api.Record) { r.Proto = 3 }, false},
		{func(r *api.Record) { r.Proto = 257 }, false},
		{func(r *api.Record) { r.Proto = -1 }, false},
		{func(r *api.Record) { r.Name = "" }, false},
		{func(r *api.Record) { r.Name = strings.Repeat("n", 16) }, true},
		{func(r *api.Record) { r.Name = strings.Repeat("n", 17) }, false},
		{func(r *api.Record) { r.Name = " " }, false},
		{func(r *api.Record) { r.Salt = fill(16, 1) }, true},
		{func(r *api.Record) { r.Salt = fill(17, 1) }, false},
		{func(r *api.Record) { r.Salt = nil }, true},
		{func(r *api.Record) { r.Seal = fill(48, 1) }, true},
		{func(r *api.Record) { r.Seal = fill(49, 1) }, false},
		{func(r *api.Record) { r.V = api.Num{1<<32 - 1} }, true},
		{func(r *api.Record) { r.V = api.Num{0, 1} }, false},
		{func(r *api.Record) { r.Key = api.Num{1<<32 - 1} }, true},
		{func(r *api.Record) { r.Key = api.Num{7: 1} }, false},
		{func(r *api.Record) { r.Key = api.Num{0, 1} }, false},
		{func(r *api.Record) { r.Tokens = 0 }, true},
		{func(r *api.Record) { r.Tokens = 255 }, true},
		{func(r *api.Record) { r.Tokens = 256 }, false},
		{func(r *api.Record) { r.Tokens = -1 }, false},
		{func(r *api.Record) { r.At = 0 }, true},
		{func(r *api.Record) { r.At = math.MaxInt }, true},
		{func(r *api.Record) { r.At = -1 }, false},
		{func(r *api.Record) { r.Revoked = 0 }, true},
		{func(r *api.Record) { r.Revoked = math.MinInt }, false},
	} {
		r := sample()
		c.set(&r)
		b, is := wire.Record(r)
		if is != c.want || !is && b != nil {
			t.Errorf("case %d: %x, %v", i, b, is)
		}
		if back, is := wire.ReadRecord(b); is != c.want || is && !reflect.DeepEqual(plainRecord(back), plainRecord(r)) {
			t.Errorf("case %d: back %v, %v", i, back, is)
		}
	}
}

// P503: what is no Record is not read.
func TestReadRecordOthers(t *testing.T) {
	b, _ := wire.Record(sample())
	for i := range b {
		if r, is := wire.ReadRecord(b[:i]); is || !reflect.DeepEqual(r, api.Record{}) {
			t.Errorf("ReadRecord of %d bytes: %v", i, r)
		}
		for x := 1; x < 256; x++ {
			other := append([]byte{}, b...)
			other[i] ^= byte(x)
			if r, is := wire.ReadRecord(other); is {
				if again, _ := wire.Record(r); !bytes.Equal(again, other) {
					t.Errorf("ReadRecord(%x): %v", other, r)
				}
			} else if !reflect.DeepEqual(r, api.Record{}) {
				t.Errorf("ReadRecord(%x): false beside %v", other, r)
			}
		}
	}
	for _, more := range []string{"\x00", "x", string(b)} {
		if r, is := wire.ReadRecord(append(append([]byte{}, b...), more...)); is {
			t.Errorf("ReadRecord of more: %v", r)
		}
	}
	high := append([]byte{}, b...)
	high[len(high)-8] = 0x80
	if r, is := wire.ReadRecord(high); is {
		t.Errorf("ReadRecord of a number that is none: %v", r)
	}
	r, _ := wire.ReadRecord(b)
	clear(b)
	if !reflect.DeepEqual(r, sample()) {
		t.Error("ReadRecord shares memory")
	}
}
