package client_test

import (
	"bytes"
	"strings"
	"testing"

	"sentinel/api"
	"sentinel/authd"
	"sentinel/client"
	"sentinel/group"
	"sentinel/limb"
	"sentinel/opq"
	"sentinel/sponge"
	"sentinel/srp"
	"sentinel/vault"
	"sentinel/wire"
)

var secret = []byte("the server's")

// rig is a server, with a connection to it, and a client.
type rig struct {
	*testing.T
	g    api.Group
	v    *vault.Vault
	s    *authd.Server
	conn int
	c    *client.Client
}

func newRig(t *testing.T, name, pass string) *rig {
	t.Helper()
	g, is := group.Make(20)
	if !is {
		t.Fatal("Make: false")
	}
	v := vault.New()
	s := authd.New(g, v, secret)
	return &rig{T: t, g: g, v: v, s: s, conn: s.Open(), c: client.New(g, name, []byte(pass), opq.Public(g, secret))}
}

func (r *rig) encode(m api.Msg) []byte {
	r.Helper()
	b, is := wire.Encode(m)
	if !is {
		r.Fatalf("no message: %v", m)
	}
	return b
}

func (r *rig) say(b []byte) []byte { return r.s.Say(r.conn, b, []byte("server's draw")) }

// hear wants an error, and whether something is said, and whether the client waits then.
func (r *rig) hear(what string, b []byte, e api.Errno, waits bool) []byte {
	r.Helper()
	say, got := r.c.Hear(b)
	if got != e || r.c.Waits() != waits || e != api.OK && len(say) > 0 {
		r.Fatalf("%s: %x, %v, waits %v", what, say, got, r.c.Waits())
	}
	return say
}

func (r *rig) wantOutside(what string) {
	r.Helper()
	if key, token, is := r.c.Inside(); is || key != (api.Sum{}) || len(token) > 0 {
		r.Fatalf("%s: inside: %x, %x", what, key, token)
	}
}

// enrol and login are whole ones.
func (r *rig) enrol(proto int, draw string) {
	r.Helper()
	if say := r.hear("enrol", r.say(r.c.Enrol(proto, []byte(draw))), api.OK, false); len(say) > 0 {
		r.Fatalf("enrol: says %x", say)
	}
}

func (r *rig) login(proto int, draw string) (api.Sum, []byte) {
	r.Helper()
	proof := r.hear("offer", r.say(r.c.Login(proto, []byte(draw))), api.OK, true)
	r.wantOutside("offer")
	if say := r.hear("proved", r.say(proof), api.OK, false); len(say) > 0 {
		r.Fatalf("proved: says %x", say)
	}
	key, token, is := r.c.Inside()
	if !is || key == (api.Sum{}) {
		r.Fatal("login: not inside")
	}
	return key, token
}

// P1101: a new one
func TestNew(t *testing.T) {
	r := newRig(t, "ann", "secret")
	r.wantOutside("New")
	for _, b := range [][]byte{nil, {}, {0, 1, 7}, {255, 255}} {
		r.hear("a new one", b, api.BadState, false)
	}
}

// P1101: names, passwords that may not be; others that may.
func TestNames(t *testing.T) {
	for _, c := range []struct {
		name, pass string
		fits       bool
	}{
		{"", "p", false}, {" ", "p", false}, {"a b", "p", false}, {"a\x7f", "p", false}, {strings.Repeat("n", 17), "p", false}, {"ann", strings.Repeat("p", 65), false},
		{"!", "", true}, {strings.Repeat("~", 16), strings.Repeat("\x00", 64), true},
	} {
		for _, proto := range []int{api.Srp, api.Opq} {
			r := newRig(t, c.name, c.pass)
			if b := r.c.Enrol(proto, nil); (len(b) > 0) != c.fits || r.c.Waits() != c.fits {
				t.Errorf("%q, %q: Enrol: %x", c.name, c.pass, b)
			}
			if b := r.c.Login(proto, nil); (len(b) > 0) != c.fits || r.c.Waits() != c.fits {
				t.Errorf("%q, %q: Login: %x", c.name, c.pass, b)
			}
			if !c.fits {
				r.hear("never heard", []byte{0, 1, 7}, api.BadState, false)
			}
		}
	}
}

// P1101: what Enrol, Login say, to the byte.
func TestSays(t *testing.T) {
	r := newRig(t, "ann", "secret")
	name, pass, draw := "ann", []byte("secret"), []byte("draw")
	salt := sponge.Of([]byte("salt"), draw)
	b, _ := wire.Record(api.Record{Proto: api.Srp, Name: name, Salt: salt[:], V: srp.Verifier(r.g, name, pass, salt[:])})
	if got := r.c.Enrol(api.Srp, draw); !bytes.Equal(got, r.encode(api.Msg{Kind: api.MEnrol, Proto: api.Srp, Name: name, Record: b})) || !r.c.Waits() {
		t.Errorf("Enrol by srp: %x", got)
	}
	key := sponge.Of([]byte("key"), draw)
	b, _ = wire.Record(opq.Enrol(r.g, name, pass, draw, group.Exponent(r.g, key[:]), opq.Public(r.g, secret)))
	if got := r.c.Enrol(api.Opq, draw); !bytes.Equal(got, r.encode(api.Msg{Kind: api.MEnrol, Proto: api.Opq, Name: name, Record: b})) || !r.c.Waits() {
		t.Errorf("Enrol by opq: %x", got)
	}
	_, a := srp.Hello(r.g, name, pass, draw)
	if got := r.c.Login(api.Srp, draw); !bytes.Equal(got, r.encode(api.Msg{Kind: api.MHello, Proto: api.Srp, Name: name, A: a})) || !r.c.Waits() {
		t.Errorf("Login by srp: %x", got)
	}
	_, blind, mine := opq.Hello(r.g, name, pass, draw)
	if got := r.c.Login(api.Opq, draw); !bytes.Equal(got, r.encode(api.Msg{Kind: api.MHello, Proto: api.Opq, Name: name, A: blind, B: mine})) || !r.c.Waits() {
		t.Errorf("Login by opq: %x", got)
	}
}

// P1101: another proto says nothing, and changes nothing.
func TestOtherProto(t *testing.T) {
	r := newRig(t, "ann", "secret")
	for _, proto := range []int{0, 3, -1, 257} {
		if len(r.c.Enrol(proto, nil)) > 0 || len(r.c.Login(proto, nil)) > 0 || r.c.Waits() {
			t.Errorf("proto %d", proto)
		}
	}
	r.enrol(api.Srp, "d")
	r.login(api.Srp, "d")
	if r.c.Login(3, nil); r.c.Waits() {
		t.Error("waits")
	}
	if _, _, is := r.c.Inside(); !is {
		t.Error("not inside any more")
	}
	r.c.Login(api.Srp, []byte("d"))
	r.c.Enrol(3, nil)
	r.hear("nothing", nil, api.OK, true)
}

// P1101, P1102 (T1): whole ones, by either way.
func TestLogin(t *testing.T) {
	for _, proto := range []int{api.Srp, api.Opq} {
		for _, pass := range []string{"", "secret", strings.Repeat("p", 64)} {
			r := newRig(t, "ann", pass)
			r.enrol(proto, "e")
			r.wantOutside("enrolled")
			key, token := r.login(proto, "one")
			check := r.encode(api.Msg{Kind: api.MCheck, Token: token, Channel: r.conn})
			if got := r.say(check); !bytes.Equal(got, []byte{0, 1, 7}) {
				t.Errorf("the token: %x", got)
			}
			other, _ := r.login(proto, "two")
			if other == key {
				t.Error("two logins have one key")
			}
			r.hear("behind it", []byte{0, 1, 7}, api.BadState, false)
			if _, _, is := r.c.Inside(); !is {
				t.Error("not inside any more")
			}
			r.c.Enrol(proto, []byte("e"))
			if _, _, is := r.c.Inside(); !is {
				t.Error("Enrol: not inside any more")
			}
			r.c.Login(proto, []byte("three"))
			r.wantOutside("Login")
		}
	}
}

// P1102: the key is the one that the server came to.
func TestKey(t *testing.T) {
	r := newRig(t, "ann", "secret")
	salt := []byte("salt")
	rec := api.Record{Name: "ann", Salt: salt, V: srp.Verifier(r.g, "ann", []byte("secret"), salt)}
	m, _ := wire.Decode(r.c.Login(api.Srp, []byte("d")))
	side, b, _ := srp.Offer(r.g, rec, m.A, []byte("e"))
	say := r.hear("offer", r.encode(api.Msg{Kind: api.MOffer, Proto: api.Srp, B: b, Salt: salt}), api.OK, true)
	if !bytes.Equal(say, r.encode(api.Msg{Kind: api.MProve, Tag: side.Proof[:]})) {
		t.Errorf("MProve: %x", say)
	}
	tag, _ := srp.Check(side, side.Proof[:])
	r.hear("proved", r.encode(api.Msg{Kind: api.MProved, Tag: tag[:], Token: []byte("token")}), api.OK, false)
	if key, token, is := r.c.Inside(); !is || key != side.Key || string(token) != "token" {
		t.Errorf("Inside: %x, %q, %v", key, token, is)
	}
	record := opq.Enrol(r.g, "ann", []byte("secret"), []byte("c"), limb.From(5), opq.Public(r.g, secret))
	m, _ = wire.Decode(r.c.Login(api.Opq, []byte("d")))
	other, eval, mine, seal, _ := opq.Offer(r.g, record, secret, m.A, m.B, []byte("e"))
	say = r.hear("offer", r.encode(api.Msg{Kind: api.MOffer, Proto: api.Opq, A: eval, B: mine, Seal: seal}), api.OK, true)
	if !bytes.Equal(say, r.encode(api.Msg{Kind: api.MProve, Tag: other.Proof[:]})) {
		t.Errorf("MProve: %x", say)
	}
	tag, _ = opq.Check(other, other.Proof[:])
	r.hear("proved", r.encode(api.Msg{Kind: api.MProved, Tag: tag[:], Token: []byte("token 2")}), api.OK, false)
	if key, token, is := r.c.Inside(); !is || key != other.Key || string(token) != "token 2" {
		t.Errorf("Inside: %x, %q, %v", key, token, is)
	}
}

// P1102 (T2): another password is not let in, nor is a server let in that is not the one.
func TestOthersAreNotLetIn(t *testing.T) {
	for _, proto := range []int{api.Srp, api.Opq} {
		r := newRig(t, "ann", "secret")
		r.enrol(proto, "e")
		r.c = client.New(r.g, "ann", []byte("Secret"), opq.Public(r.g, secret))
		answer := r.say(r.c.Login(proto, []byte("d")))
		say, e := r.c.Hear(answer)
		if e == api.OK {
			r.hear("the server refuses", r.say(say), api.Refused, false)
		} else if e != api.Refused || r.c.Waits() {
			t.Errorf("an offer by another password: %v", e)
		}
		r.wantOutside("another password")
	}
	r := newRig(t, "ann", "secret")
	r.enrol(api.Opq, "e")
	r.c = client.New(r.g, "ann", []byte("secret"), limb.From(4))
	r.hear("another server", r.say(r.c.Login(api.Opq, []byte("d"))), api.Refused, false)
	r = newRig(t, "ann", "secret")
	r.enrol(api.Srp, "e")
	proof := r.hear("offer", r.say(r.c.Login(api.Srp, []byte("d"))), api.OK, true)
	answer := r.say(proof)
	m, _ := wire.Decode(answer)
	m.Tag[3] ^= 1
	r.hear("another tag", r.encode(m), api.Refused, false)
	r.wantOutside("another tag")
	r.hear("the right one behind it", answer, api.BadState, false)
}

// P1102: any message, whatever is waited for.
func TestHear(t *testing.T) {
	done, failed := api.Msg{Kind: api.MDone}, api.Msg{Kind: api.MError, E: api.Locked}
	srpOffer := api.Msg{Kind: api.MOffer, Proto: api.Srp, B: limb.From(4), Salt: []byte("s")}
	opqOffer := api.Msg{Kind: api.MOffer, Proto: api.Opq, A: limb.From(4), B: limb.From(4), Seal: make([]byte, 20)}
	bare, proved := api.Msg{Kind: api.MProved, Token: []byte("t")}, api.Msg{Kind: api.MProved, Tag: []byte("t"), Token: []byte("t")}
	prove, check := api.Msg{Kind: api.MProve, Tag: []byte("t")}, api.Msg{Kind: api.MCheck, Token: []byte("t"), Channel: 1}
	badB := srpOffer
	badB.B = limb.From(1<<32 - 1)
	all := []api.Msg{done, failed, srpOffer, opqOffer, bare, proved, prove, check, badB}
	for what, c := range map[string]struct {
		begin func(r *rig)
		want  []api.Errno
	}{
		"enrol":  {func(r *rig) { r.c.Enrol(api.Srp, nil) }, []api.Errno{api.OK, api.Locked, 2, 2, 2, 2, 2, 2, 2}},
		"srp":    {func(r *rig) { r.c.Login(api.Srp, nil) }, []api.Errno{2, api.Locked, -1, 2, 2, 2, 2, 2, api.Refused}},
		"opq":    {func(r *rig) { r.c.Login(api.Opq, nil) }, []api.Errno{2, api.Locked, 2, api.Refused, 2, 2, 2, 2, 2}},
		"proved": {proofSent, []api.Errno{2, api.Locked, 2, 2, 2, api.Refused, 2, 2, 2}},
	} {
		for i, m := range all {
			r := newRig(t, "ann", "secret")
			c.begin(r)
			if c.want[i] >= 0 {
				r.hear(what, r.encode(m), c.want[i], false)
			}
			r.wantOutside(what)
		}
		r := newRig(t, "ann", "secret")
		c.begin(r)
		r.hear(what+": bad", []byte{0, 201}, api.BadFrame, false)
		r.hear(what+": behind what is bad", []byte{0, 1, 7}, api.BadState, false)
		c.begin(r)
		r.hear(what+": none", []byte{0, 1, 0}, api.BadFrame, false)
		c.begin(r)
		r.hear(what+": a piece", []byte{0}, api.OK, true)
		r.hear(what+": nothing", nil, api.OK, true)
		c.begin(r) // on a stream of its own
		r.hear(what+": anew", r.encode(failed), api.Locked, false)
	}
}

// proofSent is a login up to where MProved is waited for.
func proofSent(r *rig) {
	salt := []byte("salt")
	m, _ := wire.Decode(r.c.Login(api.Srp, []byte("d")))
	_, b, _ := srp.Offer(r.g, api.Record{Name: "ann", Salt: salt, V: srp.Verifier(r.g, "ann", []byte("secret"), salt)}, m.A, nil)
	r.hear("offer", r.encode(api.Msg{Kind: api.MOffer, Proto: api.Srp, B: b, Salt: salt}), api.OK, true)
}

// P1102: byte by byte; a message at most each time.
func TestPieces(t *testing.T) {
	r := newRig(t, "ann", "secret")
	r.enrol(api.Opq, "e")
	var proof []byte
	offer := r.say(r.c.Login(api.Opq, []byte("d")))
	for i, c := range offer {
		proof = r.hear("a byte", []byte{c}, api.OK, true)
		if last := i == len(offer)-1; (len(proof) > 0) != last {
			t.Fatalf("byte %d: %x", i, proof)
		}
	}
	proved := r.say(proof)
	for i, c := range proved {
		r.hear("a byte", []byte{c}, api.OK, i < len(proved)-1)
	}
	if _, _, is := r.c.Inside(); !is {
		t.Error("not inside")
	}
	// two at once: the second waits, for the next time
	r = newRig(t, "ann", "secret")
	r.enrol(api.Srp, "e")
	two := append(r.say(r.c.Login(api.Srp, []byte("d"))), r.encode(api.Msg{Kind: api.MError, E: api.Busy})...)
	if say := r.hear("two", two, api.OK, true); len(say) == 0 {
		t.Error("nothing is said")
	}
	r.hear("the second", nil, api.Busy, false)
	// what is bad behind a message is bad when its turn comes
	r.c.Enrol(api.Srp, nil)
	r.hear("done, and what is bad", []byte{0, 1, 7, 255, 255}, api.OK, false)
}

// P1102: a stream takes 100000 bytes.
func TestTooMuch(t *testing.T) {
	r := newRig(t, "ann", "secret")
	r.c.Login(api.Srp, nil)
	piece := append([]byte{0, 1, 7}, make([]byte, 99997)...)
	r.hear("the first", piece, api.BadState, false)
	proofSent(r)
	b := append(r.encode(api.Msg{Kind: api.MError, E: api.Busy}), make([]byte, 100000)...)
	r.hear("much at once", b, api.Busy, false)
}

// P2, P3, P7
func TestOwn(t *testing.T) {
	play := func() []byte {
		r := newRig(t, "ann", "secret")
		room := []byte("secretdrawmore")
		c := client.New(r.g, "ann", room[:6], opq.Public(r.g, secret))
		other := client.New(r.g, "ann", []byte("secret"), opq.Public(r.g, secret))
		r.c = c
		other.Login(api.Srp, nil)
		if c.Waits() {
			t.Error("two clients touch one another")
		}
		say := c.Enrol(api.Srp, room[6:10])
		if string(room) != "secretdrawmore" {
			t.Error("what was handed in is changed")
		}
		clear(room)
		r.hear("enrol", r.say(say), api.OK, false)
		key, token := r.login(api.Srp, "d")
		was := string(token)
		clear(token)
		if _, token, _ := c.Inside(); string(token) != was {
			t.Error("Inside shares memory")
		}
		return append(key[:], was...)
	}
	if a, b := play(), play(); !bytes.Equal(a, b) {
		t.Error("the same calls answer something else")
	}
}
