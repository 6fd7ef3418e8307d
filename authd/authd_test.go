package authd_test

import (
	"bytes"
	"math"
	"reflect"
	"strconv"
	"testing"

	"sentinel/api"
	"sentinel/authd"
	"sentinel/group"
	"sentinel/guard"
	"sentinel/limb"
	"sentinel/opq"
	"sentinel/sponge"
	"sentinel/srp"
	"sentinel/vault"
	"sentinel/wire"
	"sentinel/words"
)

// rig is a server, its vault, and one who talks to it.
type rig struct {
	*testing.T
	g      api.Group
	v      *vault.Vault
	s      *authd.Server
	secret []byte
}

func newRig(t *testing.T) *rig {
	t.Helper()
	g, is := group.Make(20)
	if !is {
		t.Fatal("Make: false")
	}
	v := vault.New()
	secret := []byte("the server's")
	return &rig{T: t, g: g, v: v, s: authd.New(g, v, secret), secret: secret}
}

var draw = []byte("draw")

// drawn is what the message behind n others is drawn by.
func drawn(n int) []byte {
	sum := sponge.Of(draw, words.Eight(n))
	return sum[:]
}

func (r *rig) encode(m api.Msg) []byte {
	r.Helper()
	b, is := wire.Encode(m)
	if !is {
		r.Fatalf("no message: %v", m)
	}
	return b
}

// say is one message, and the one that answers it.
func (r *rig) say(conn int, m api.Msg) api.Msg {
	r.Helper()
	answer, is := wire.Decode(r.s.Say(conn, r.encode(m), draw))
	if !is {
		r.Fatalf("%v is not answered by one", m)
	}
	return answer
}

func (r *rig) want(what string, got, want api.Msg) {
	r.Helper()
	if !bytes.Equal(r.encode(got), r.encode(want)) {
		r.Fatalf("%s: %v, not %v", what, got, want)
	}
}

func (r *rig) wantError(what string, got api.Msg, e api.Errno) {
	r.Helper()
	r.want(what, got, api.Msg{Kind: api.MError, E: e})
}

func (r *rig) wantDone(what string, got api.Msg) {
	r.Helper()
	r.want(what, got, api.Msg{Kind: api.MDone})
}

// password is everybody's.
func password(name string) []byte { return []byte("pass of " + name) }

// record is one that a client makes.
func (r *rig) record(proto int, name string) api.Record {
	if proto == api.Srp {
		salt := []byte("salt")
		return api.Record{Proto: proto, Name: name, Salt: salt, V: srp.Verifier(r.g, name, password(name), salt)}
	}
	return opq.Enrol(r.g, name, password(name), []byte("enrol"), limb.From(77), opq.Public(r.g, r.secret))
}

func (r *rig) written(rec api.Record) []byte {
	r.Helper()
	b, is := wire.Record(rec)
	if !is {
		r.Fatalf("no record: %v", rec)
	}
	return b
}

func (r *rig) enrolMsg(rec api.Record) api.Msg {
	return api.Msg{Kind: api.MEnrol, Proto: rec.Proto, Name: rec.Name, Record: r.written(rec)}
}

func (r *rig) enrol(conn, proto int, name string) {
	r.Helper()
	r.wantDone("enrol", r.say(conn, r.enrolMsg(r.record(proto, name))))
}

// prover is a client's side: what its Hello is, and what it makes of an offer.
type prover struct {
	hello api.Msg
	prove func(offer api.Msg) (proof []byte, is bool)
	done  func(tag []byte) bool
}

func (r *rig) prover(proto int, name string, pass []byte) prover {
	if proto == api.Srp {
		side, a := srp.Hello(r.g, name, pass, []byte("client"))
		return prover{
			hello: api.Msg{Kind: api.MHello, Proto: proto, Name: name, A: a},
			prove: func(offer api.Msg) ([]byte, bool) {
				proved, proof, is := srp.Prove(side, offer.Salt, offer.B)
				side = proved
				return proof[:], is
			},
			done: func(tag []byte) bool { return srp.Done(side, tag) },
		}
	}
	side, blind, mine := opq.Hello(r.g, name, pass, []byte("client"))
	return prover{
		hello: api.Msg{Kind: api.MHello, Proto: proto, Name: name, A: blind, B: mine},
		prove: func(offer api.Msg) ([]byte, bool) {
			proved, proof, is := opq.Prove(side, offer.A, offer.B, opq.Public(r.g, r.secret), offer.Seal)
			side = proved
			return proof[:], is
		},
		done: func(tag []byte) bool { return opq.Done(side, tag) },
	}
}

// greet begins a run.
func (r *rig) greet(conn, proto int, name string) {
	r.Helper()
	if m := r.say(conn, r.prover(proto, name, nil).hello); m.Kind != api.MOffer {
		r.Fatalf("MHello: %v", m)
	}
}

// begin is a login up to the proof.
func (r *rig) begin(conn, proto int, name string) (prover, []byte) {
	r.Helper()
	p := r.prover(proto, name, password(name))
	proof, is := p.prove(r.say(conn, p.hello))
	if !is {
		r.Fatal("Prove: false")
	}
	return p, proof
}

// login is a whole one; it tells the token.
func (r *rig) login(conn, proto int, name string) []byte {
	r.Helper()
	p, proof := r.begin(conn, proto, name)
	m := r.say(conn, api.Msg{Kind: api.MProve, Tag: proof})
	if m.Kind != api.MProved || !p.done(m.Tag) {
		r.Fatalf("login: %v", m)
	}
	return m.Token
}

func (r *rig) get(name string) api.Record {
	r.Helper()
	rec, is := r.v.Get(name)
	if !is {
		r.Fatalf("no account %s", name)
	}
	return rec
}

func (r *rig) wantBucket(what, name string, tokens, at int) {
	r.Helper()
	if rec := r.get(name); rec.Tokens != tokens || rec.At != at {
		r.Fatalf("%s: %d tokens at %d, not %d at %d", what, rec.Tokens, rec.At, tokens, at)
	}
}

func (r *rig) check(conn, channel int, token []byte) api.Msg {
	r.Helper()
	return r.say(conn, api.Msg{Kind: api.MCheck, Token: token, Channel: channel})
}

// tokenKey is what tokens are marked by.
func (r *rig) tokenKey(era, rotated int) []byte {
	sum := sponge.Mac(r.secret, []byte("tokens"), words.Eight(era), words.Eight(rotated))
	return sum[:]
}

// P1001: Open, Close
func TestConnections(t *testing.T) {
	r := newRig(t)
	for i := 1; i <= 3; i++ {
		if got := r.s.Open(); got != i {
			t.Errorf("Open: %d, not %d", got, i)
		}
	}
	for _, conn := range []int{0, -1, 4, math.MaxInt, math.MinInt} {
		if r.s.Close(conn) || len(r.s.Say(conn, []byte{0, 1, 7}, draw)) != 0 {
			t.Errorf("connection %d is there", conn)
		}
	}
	if !r.s.Close(2) || r.s.Close(2) || len(r.s.Say(2, []byte{0, 1, 7}, draw)) != 0 {
		t.Error("Close of 2")
	}
	if got := r.s.Open(); got != 4 {
		t.Errorf("Open behind Close: %d", got)
	}
	r.wantError("3 beside it", r.say(3, api.Msg{Kind: api.MDone}), api.BadState)
	r.greet(3, api.Srp, "nobody")
	r.greet(4, api.Opq, "nobody")
	if r.s.Runs() != 2 || !r.s.Close(3) || r.s.Runs() != 1 {
		t.Errorf("Close leaves %d runs", r.s.Runs())
	}
}

func (r *rig) wantNow(tick, era int) {
	r.Helper()
	if gotTick, gotEra := r.s.Now(); gotTick != tick || gotEra != era {
		r.Errorf("Now: %d, %d, not %d, %d", gotTick, gotEra, tick, era)
	}
}

// P1001: Now, Tick
func TestClock(t *testing.T) {
	r := newRig(t)
	r.wantNow(0, 1)
	for _, n := range []int{0, -1, math.MinInt} {
		r.s.Tick(n)
		r.wantNow(0, 1)
	}
	r.s.Tick(1)
	r.s.Tick(41)
	r.wantNow(42, 1)
	r.v.Again(nil)
	r.wantNow(42, 1)
	r.s = authd.New(r.g, r.v, r.secret)
	r.wantNow(0, 2)
	r.s.Tick(math.MaxInt)
	r.s.Tick(math.MaxInt)
	r.wantNow(math.MaxInt, 2)
}

// P1001: runs end by patience.
func TestPatience(t *testing.T) {
	r := newRig(t)
	a, b := r.s.Open(), r.s.Open()
	r.enrol(a, api.Srp, "ann")
	_, proof := r.begin(a, api.Srp, "ann")
	r.s.Tick(7)
	r.greet(b, api.Opq, "nobody")
	r.s.Tick(12)
	if r.s.Runs() != 2 {
		t.Errorf("behind 19 ticks: %d runs", r.s.Runs())
	}
	r.s.Tick(1)
	if r.s.Runs() != 1 {
		t.Errorf("behind 20 ticks: %d runs", r.s.Runs())
	}
	r.wantError("proof too late", r.say(a, api.Msg{Kind: api.MProve, Tag: proof}), api.BadState)
	r.login(a, api.Srp, "ann")
	r.s.Tick(1000)
	if r.s.Runs() != 0 {
		t.Errorf("at last: %d runs", r.s.Runs())
	}
	_, proof = r.begin(a, api.Srp, "ann")
	r.s.Tick(19)
	if m := r.say(a, api.Msg{Kind: api.MProve, Tag: proof}); m.Kind != api.MProved {
		t.Errorf("proof behind 19 ticks: %v", m)
	}
}

// P1002: MEnrol
func TestEnrol(t *testing.T) {
	for _, proto := range []int{api.Srp, api.Opq} {
		r := newRig(t)
		conn := r.s.Open()
		r.s.Tick(33)
		rec := r.record(proto, "ann")
		rec.Tokens, rec.At, rec.Revoked = 255, 1000, 2000
		r.wantDone("enrol", r.say(conn, r.enrolMsg(rec)))
		rec.Tokens, rec.At, rec.Revoked = 5, 33, 0
		if got := r.get("ann"); !bytes.Equal(r.written(got), r.written(rec)) {
			t.Errorf("kept: %v, not %v", got, rec)
		}
		r.wantError("enrol again", r.say(conn, r.enrolMsg(rec)), api.Exists)
		if got := r.get("ann"); !bytes.Equal(r.written(got), r.written(rec)) {
			t.Errorf("kept: %v", got)
		}
	}
}

// misfits are records that no login can be held against, and one at the edge of each that one can.
func (r *rig) misfits() map[string]func(*api.Record) {
	set := func(proto int, f func(*api.Record)) func(*api.Record) {
		return func(rec *api.Record) {
			*rec = r.record(proto, rec.Name)
			f(rec)
		}
	}
	return map[string]func(*api.Record){
		"no V":           set(api.Srp, func(x *api.Record) { x.V = api.Num{} }),
		"V of 1":         set(api.Srp, func(x *api.Record) { x.V = limb.From(1) }),
		"V of P":         set(api.Opq, func(x *api.Record) { x.V = r.g.P }),
		"V of P less 1":  set(api.Opq, func(x *api.Record) { x.V, _ = limb.Sub(r.g.P, limb.From(1)) }),
		"no Salt":        set(api.Srp, func(x *api.Record) { x.Salt = nil }),
		"no Seal":        set(api.Opq, func(x *api.Record) { x.Seal = nil }),
		"a short Seal":   set(api.Opq, func(x *api.Record) { x.Seal = x.Seal[:19] }),
		"a long Seal":    set(api.Opq, func(x *api.Record) { x.Seal = append(x.Seal, 1) }),
		"no Key":         set(api.Opq, func(x *api.Record) { x.Key = api.Num{} }),
		"Key of Q":       set(api.Opq, func(x *api.Record) { x.Key = r.g.Q }),
		"Key above Q":    set(api.Opq, func(x *api.Record) { x.Key = limb.From(1<<32 - 1) }),
		"fits: Salt":     set(api.Srp, func(x *api.Record) { x.Salt = []byte{1} }),
		"fits: others":   set(api.Srp, func(x *api.Record) { x.Key, x.Seal = r.g.P, []byte("seal") }),
		"fits: V":        set(api.Srp, func(x *api.Record) { x.V = limb.From(4) }),
		"fits: Key of 1": set(api.Opq, func(x *api.Record) { x.Key = limb.From(1) }),
		"fits: Key":      set(api.Opq, func(x *api.Record) { x.Key, _ = limb.Sub(r.g.Q, limb.From(1)) }),
	}
}

// P1002: what MEnrol refuses, in its order.
func TestEnrolErrors(t *testing.T) {
	r := newRig(t)
	conn := r.s.Open()
	i := 0
	for what, set := range r.misfits() {
		i++
		rec := api.Record{Name: "m" + strconv.Itoa(i)}
		set(&rec)
		got := r.say(conn, r.enrolMsg(rec))
		if what[:4] == "fits" {
			r.wantDone(what, got)
			continue
		}
		r.wantError(what, got, api.Refused)
		if _, is := r.v.Get(rec.Name); is {
			t.Errorf("%s: kept", what)
		}
	}
	ann := r.record(api.Srp, "ann")
	m := r.enrolMsg(ann)
	m.Name = "bob"
	r.wantError("of another name", r.say(conn, m), api.Refused)
	m = r.enrolMsg(ann)
	m.Proto = api.Opq
	r.wantError("of the other way", r.say(conn, m), api.Refused)
	m = r.enrolMsg(ann)
	m.Record = m.Record[1:]
	r.wantError("of no record", r.say(conn, m), api.Refused)
	r.enrol(conn, api.Srp, "ann")
	m = r.enrolMsg(ann)
	m.Record = append(m.Record, 0)
	r.wantError("no record of one that is there", r.say(conn, m), api.Refused)
	for i := len(r.v.Names()); i < 8; i++ {
		r.enrol(conn, api.Opq, "more"+strconv.Itoa(i))
	}
	r.wantError("a ninth", r.say(conn, r.enrolMsg(r.record(api.Srp, "ninth"))), api.NoSpace)
	r.v.Fail(0)
	r.wantError("a ninth ahead of the fall", r.say(conn, r.enrolMsg(r.record(api.Srp, "ninth"))), api.NoSpace)
	r.v.Gone("ann")
	r.wantError("on a dead device", r.say(conn, r.enrolMsg(r.record(api.Srp, "ninth"))), api.Dead)
	r.wantError("one that is there", r.say(conn, r.enrolMsg(ann)), api.Exists)
}

// offerOf is what a server offers, by the draw of the message behind n others.
func (r *rig) offerOf(rec api.Record, hello api.Msg, n int) api.Msg {
	if hello.Proto == api.Srp {
		_, b, is := srp.Offer(r.g, rec, hello.A, drawn(n))
		if !is {
			r.Fatal("Offer: false")
		}
		return api.Msg{Kind: api.MOffer, Proto: api.Srp, B: b, Salt: rec.Salt}
	}
	_, eval, mine, seal, is := opq.Offer(r.g, rec, r.secret, hello.A, hello.B, drawn(n))
	if !is {
		r.Fatal("Offer: false")
	}
	return api.Msg{Kind: api.MOffer, Proto: api.Opq, A: eval, B: mine, Seal: seal}
}

// P1002: MHello, its answer by either way, and what it costs.
func TestHello(t *testing.T) {
	for _, proto := range []int{api.Srp, api.Opq} {
		r := newRig(t)
		conn, other := r.s.Open(), r.s.Open()
		r.enrol(conn, proto, "ann")
		r.s.Tick(3)
		hello := r.prover(proto, "ann", nil).hello
		r.want("MOffer", r.say(conn, hello), r.offerOf(r.get("ann"), hello, 0))
		r.wantBucket("charged", "ann", 4, 3)
		if r.s.Runs() != 1 {
			t.Errorf("%d runs", r.s.Runs())
		}
		r.wantError("a second MHello", r.say(conn, hello), api.BadState)
		r.wantBucket("not charged", "ann", 4, 3)
		r.say(other, hello)
		r.wantBucket("charged", "ann", 3, 3)
		if r.s.Runs() != 2 {
			t.Errorf("%d runs", r.s.Runs())
		}
	}
}

// P1002: of nobody, and of the other way, a fake.
func TestHelloFake(t *testing.T) {
	for _, proto := range []int{api.Srp, api.Opq} {
		r := newRig(t)
		conn := r.s.Open()
		r.enrol(conn, 3-proto, "ann")
		for _, name := range []string{"nobody", "ann"} {
			for range 7 {
				hello := r.prover(proto, name, nil).hello
				r.want("MOffer", r.say(conn, hello), r.offerOf(opq.Fake(r.g, r.secret, name), hello, 0))
				r.wantError("the proof", r.say(conn, api.Msg{Kind: api.MProve, Tag: []byte("x")}), api.Refused)
			}
		}
		r.wantBucket("not charged", "ann", 5, 0)
		r.v.Fail(0)
		r.v.Gone("ann")
		hello := r.prover(proto, "nobody", nil).hello
		r.want("MOffer on a dead device", r.say(conn, hello), r.offerOf(opq.Fake(r.g, r.secret, "nobody"), hello, 0))
	}
}

// P1002: a fake is refused, whatever proof is right of it.
func TestFakeIsRefused(t *testing.T) {
	r := newRig(t)
	conn := r.s.Open()
	p := r.prover(api.Srp, "nobody", nil)
	r.say(conn, p.hello)
	side, _, _ := srp.Offer(r.g, opq.Fake(r.g, r.secret, "nobody"), p.hello.A, drawn(0))
	r.wantError("srp", r.say(conn, api.Msg{Kind: api.MProve, Tag: side.Proof[:]}), api.Refused)
	p = r.prover(api.Opq, "nobody", nil)
	r.say(conn, p.hello)
	fake := opq.Fake(r.g, r.secret, "nobody")
	other, _, _, _, _ := opq.Offer(r.g, fake, r.secret, p.hello.A, p.hello.B, drawn(0))
	r.wantError("opq", r.say(conn, api.Msg{Kind: api.MProve, Tag: other.Proof[:]}), api.Refused)
	// nor is one of a name that came to be meanwhile, of the same numbers
	r.say(conn, p.hello)
	r.v.Put(fake)
	r.wantError("opq, kept", r.say(conn, api.Msg{Kind: api.MProve, Tag: other.Proof[:]}), api.Refused)
	if r.s.Runs() != 0 {
		t.Errorf("%d runs", r.s.Runs())
	}
}

// P1002: Busy, and its place ahead of what costs.
func TestBusy(t *testing.T) {
	r := newRig(t)
	conns := []int{r.s.Open(), r.s.Open(), r.s.Open(), r.s.Open(), r.s.Open()}
	r.enrol(conns[0], api.Srp, "ann")
	for _, conn := range conns[:4] {
		r.greet(conn, api.Opq, "nobody")
	}
	hello := r.prover(api.Srp, "ann", nil).hello
	r.wantError("a fifth", r.say(conns[4], hello), api.Busy)
	r.wantError("one that has a run", r.say(conns[1], hello), api.BadState)
	r.wantBucket("not charged", "ann", 5, 0)
	r.say(conns[2], api.Msg{Kind: api.MProve, Tag: []byte("x")})
	if m := r.say(conns[4], hello); m.Kind != api.MOffer || r.s.Runs() != 4 {
		t.Errorf("a fifth behind one that ended: %v", m)
	}
}

// P1002, T3: Locked
func TestLocked(t *testing.T) {
	r := newRig(t)
	conn := r.s.Open()
	r.enrol(conn, api.Opq, "ann")
	p := r.prover(api.Opq, "ann", []byte("a guess"))
	guess := func(want api.Errno) {
		t.Helper()
		if m := r.say(conn, p.hello); want == api.OK {
			r.wantError("a guess", r.say(conn, api.Msg{Kind: api.MProve, Tag: []byte("x")}), api.Refused)
		} else {
			r.wantError("a guess", m, want)
		}
	}
	for range 5 {
		guess(api.OK)
	}
	guess(api.Locked)
	r.wantBucket("empty", "ann", 0, 0)
	r.s.Tick(9)
	guess(api.Locked)
	r.s.Tick(1)
	guess(api.OK)
	guess(api.Locked)
	r.wantBucket("empty", "ann", 0, 10)
	r.s.Tick(25)
	r.login(conn, api.Opq, "ann")
	r.wantBucket("refunded", "ann", 2, 30)
	r.s.Tick(1000)
	for range 20 {
		r.login(conn, api.Opq, "ann")
	}
	r.wantBucket("full", "ann", 5, 1035)
}

// P1002: a record that no offer can be made of lets nobody begin.
func TestNoOffer(t *testing.T) {
	r := newRig(t)
	conn := r.s.Open()
	bare := r.record(api.Srp, "ann")
	bare.Salt, bare.Tokens = nil, 5
	r.v.Put(bare)
	r.wantError("no Salt", r.say(conn, r.prover(api.Srp, "ann", nil).hello), api.Refused)
	r.wantBucket("charged", "ann", 4, 0)
	if r.s.Runs() != 0 {
		t.Errorf("%d runs", r.s.Runs())
	}
}

// P1002: where Offer is false, what was charged stays.
func TestOfferRefused(t *testing.T) {
	r := newRig(t)
	conn := r.s.Open()
	r.enrol(conn, api.Srp, "ann")
	r.enrol(conn, api.Opq, "bob")
	r.s.Tick(2)
	bad, _ := limb.Sub(r.g.P, limb.From(1))
	r.wantError("srp", r.say(conn, api.Msg{Kind: api.MHello, Proto: api.Srp, Name: "ann", A: bad}), api.Refused)
	r.wantError("opq", r.say(conn, api.Msg{Kind: api.MHello, Proto: api.Opq, Name: "bob", A: bad, B: limb.From(4)}), api.Refused)
	r.wantError("opq", r.say(conn, api.Msg{Kind: api.MHello, Proto: api.Opq, Name: "bob", A: limb.From(4), B: bad}), api.Refused)
	r.wantError("nobody", r.say(conn, api.Msg{Kind: api.MHello, Proto: api.Srp, Name: "nobody", A: bad}), api.Refused)
	r.wantBucket("charged", "ann", 4, 2)
	r.wantBucket("charged twice", "bob", 3, 2)
	if r.s.Runs() != 0 {
		t.Errorf("%d runs", r.s.Runs())
	}
	r.v.Fail(1)
	r.wantError("the device falls", r.say(conn, r.prover(api.Srp, "ann", nil).hello), api.Dead)
	r.wantError("is dead", r.say(conn, r.prover(api.Srp, "ann", nil).hello), api.Dead)
	r.wantBucket("not charged", "ann", 4, 2)
	if r.s.Runs() != 0 {
		t.Errorf("%d runs", r.s.Runs())
	}
}

// P1002 (T1): MProve: its Tag, its Token, to the byte.
func TestProve(t *testing.T) {
	for _, proto := range []int{api.Srp, api.Opq} {
		r := newRig(t)
		r.s.Open()
		conn := r.s.Open()
		r.enrol(conn, proto, "ann")
		r.s.Tick(4)
		for i := range 3 {
			p, proof := r.begin(conn, proto, "ann")
			r.wantBucket("charged", "ann", 4, 4+i)
			m := r.say(conn, api.Msg{Kind: api.MProve, Tag: proof})
			token := guard.Issue(r.tokenKey(1, 0), api.Token{Name: "ann", Id: 1<<20 + i, Channel: 2, End: 104 + i, Era: 1})
			r.want("MProved", m, api.Msg{Kind: api.MProved, Tag: m.Tag, Token: token})
			if len(m.Tag) != 16 || !p.done(m.Tag) {
				t.Errorf("Tag: %x", m.Tag)
			}
			r.wantBucket("refunded", "ann", 5, 4+i)
			r.wantError("a second proof", r.say(conn, api.Msg{Kind: api.MProve, Tag: proof}), api.BadState)
			r.s.Tick(1)
		}
		if r.s.Runs() != 0 {
			t.Errorf("%d runs", r.s.Runs())
		}
		r.wantError("a proof without a run", r.say(conn, api.Msg{Kind: api.MProve, Tag: []byte("x")}), api.BadState)
	}
}

// P1002 (T2): what MProve refuses.
func TestProveRefused(t *testing.T) {
	for _, proto := range []int{api.Srp, api.Opq} {
		for what, c := range map[string]struct {
			do   func(r *rig, proof []byte)
			want api.Errno
		}{
			"nothing":      {func(r *rig, proof []byte) {}, api.OK},
			"other proof":  {func(r *rig, proof []byte) { proof[15] ^= 1 }, api.Refused},
			"gone":         {func(r *rig, proof []byte) { r.v.Gone("ann") }, api.Refused},
			"another V":    {func(r *rig, proof []byte) { x := r.get("ann"); x.V = limb.From(4); r.v.Put(x) }, api.Refused},
			"another Key":  {func(r *rig, proof []byte) { x := r.get("ann"); x.Key = limb.From(78); r.v.Put(x) }, api.Refused},
			"another way":  {func(r *rig, proof []byte) { x := r.get("ann"); x.Proto = 3 - x.Proto; r.v.Put(x) }, api.Refused},
			"more revoked": {func(r *rig, proof []byte) { x := r.get("ann"); x.Revoked = 7; r.v.Put(x) }, api.OK},
			"dead":         {func(r *rig, proof []byte) { r.v.Fail(0) }, api.Dead},
			"gone, dead":   {func(r *rig, proof []byte) { r.v.Gone("ann"); r.v.Fail(0) }, api.Refused},
		} {
			r := newRig(t)
			conn := r.s.Open()
			r.enrol(conn, proto, "ann")
			_, proof := r.begin(conn, proto, "ann")
			c.do(r, proof)
			m := r.say(conn, api.Msg{Kind: api.MProve, Tag: proof})
			if c.want != api.OK {
				r.wantError(what, m, c.want)
			} else if m.Kind != api.MProved {
				t.Errorf("%s: %v", what, m)
			}
			if r.s.Runs() != 0 {
				t.Errorf("%s: %d runs", what, r.s.Runs())
			}
			r.v.Again(nil)
			if rec, is := r.v.Get("ann"); is && c.want != api.OK && rec.Tokens != 4 {
				t.Errorf("%s: %d tokens", what, rec.Tokens)
			}
		}
	}
	// a proof short of bytes, and one too short to be sent on
	r := newRig(t)
	conn := r.s.Open()
	r.enrol(conn, api.Srp, "ann")
	_, proof := r.begin(conn, api.Srp, "ann")
	r.wantError("a short proof", r.say(conn, api.Msg{Kind: api.MProve, Tag: proof[:15]}), api.Refused)
	// the proof of another connection's run
	_, proof = r.begin(conn, api.Srp, "ann")
	other := r.s.Open()
	r.wantError("on another connection", r.say(other, api.Msg{Kind: api.MProve, Tag: proof}), api.BadState)
	if m := r.say(conn, api.Msg{Kind: api.MProve, Tag: proof}); m.Kind != api.MProved {
		t.Errorf("on its own: %v", m)
	}
}

// P1002 (T5): MCheck: the channel that is named, time, era, key.
func TestCheck(t *testing.T) {
	r := newRig(t)
	a, b := r.s.Open(), r.s.Open()
	r.enrol(a, api.Srp, "ann")
	r.s.Tick(10)
	token := r.login(a, api.Srp, "ann")
	r.wantDone("check", r.check(a, a, token))
	r.wantDone("check by another, of that channel", r.check(b, a, token))
	r.wantError("of another channel", r.check(a, b, token), api.Refused)
	r.wantError("of no token", r.check(a, a, token[1:]), api.Refused)
	r.wantError("of one by another key", r.check(a, a, guard.Issue([]byte("key"), api.Token{Name: "ann", Id: 1 << 20, Channel: a, End: 110, Era: 1})), api.Refused)
	r.wantError("of nobody", r.check(a, a, guard.Issue(r.tokenKey(1, 0), api.Token{Name: "bob", Id: 1 << 20, Channel: a, End: 110, Era: 1})), api.Refused)
	r.wantError("of another era", r.check(a, a, guard.Issue(r.tokenKey(1, 0), api.Token{Name: "ann", Id: 1 << 20, Channel: a, End: 110, Era: 2})), api.Refused)
	r.s.Tick(99)
	r.wantDone("at 99 ticks", r.check(a, a, token))
	r.s.Tick(1)
	r.wantError("at 100 ticks", r.check(a, a, token), api.Refused)
	token = r.login(a, api.Srp, "ann")
	r.s.Rotate()
	r.wantError("behind Rotate", r.check(a, a, token), api.Refused)
	token = r.login(a, api.Srp, "ann")
	r.wantDone("of the new key", r.check(a, a, token))
	if t2, is := guard.Read(r.tokenKey(1, 1), token); !is || t2.Id != 1<<20+2 {
		t.Errorf("token: %v, %v", t2, is)
	}
	r.v.Again(nil)
	r.wantDone("the server's era is its own", r.check(a, a, token))
	r.s = authd.New(r.g, r.v, r.secret)
	a = r.s.Open()
	r.wantError("behind the era", r.check(a, a, token), api.Refused)
	token = r.login(a, api.Srp, "ann")
	if t2, is := guard.Read(r.tokenKey(2, 0), token); !is || t2 != (api.Token{Name: "ann", Id: 2 << 20, Channel: 1, End: 100, Era: 2}) {
		t.Errorf("token: %v, %v", t2, is)
	}
	r.v.Gone("ann")
	r.wantError("of one that is gone", r.check(a, a, token), api.Refused)
}

// P1002: MRevoke
func TestRevoke(t *testing.T) {
	r := newRig(t)
	a, b := r.s.Open(), r.s.Open()
	r.enrol(a, api.Srp, "ann")
	first, second, third := r.login(a, api.Srp, "ann"), r.login(b, api.Srp, "ann"), r.login(a, api.Srp, "ann")
	was := r.get("ann")
	r.wantError("from another channel", r.say(a, api.Msg{Kind: api.MRevoke, Token: second}), api.Refused)
	r.wantDone("revoke", r.say(b, api.Msg{Kind: api.MRevoke, Token: second}))
	was.Revoked = 1<<20 + 2
	if got := r.get("ann"); !reflect.DeepEqual(got, was) {
		t.Errorf("kept: %v", got)
	}
	r.wantError("the first", r.check(a, a, first), api.Refused)
	r.wantError("the second", r.check(b, b, second), api.Refused)
	r.wantError("revoke again", r.say(b, api.Msg{Kind: api.MRevoke, Token: second}), api.Refused)
	r.wantDone("the third", r.check(a, a, third))
	r.v.Fail(0)
	r.wantError("on a dying device", r.say(a, api.Msg{Kind: api.MRevoke, Token: third}), api.Dead)
	r.wantDone("still good", r.check(a, a, third))
}

// P1002: MDelete
func TestDelete(t *testing.T) {
	r := newRig(t)
	a, b := r.s.Open(), r.s.Open()
	r.enrol(a, api.Opq, "ann")
	token := r.login(a, api.Opq, "ann")
	r.wantError("from another channel", r.say(b, api.Msg{Kind: api.MDelete, Token: token}), api.Refused)
	r.v.Fail(1)
	r.wantError("on a dying device", r.say(a, api.Msg{Kind: api.MDelete, Token: token}), api.Dead)
	r.v.Again(nil)
	r.wantDone("delete", r.say(a, api.Msg{Kind: api.MDelete, Token: token}))
	if _, is := r.v.Get("ann"); is {
		t.Error("still there")
	}
	r.wantError("delete again", r.say(a, api.Msg{Kind: api.MDelete, Token: token}), api.Refused)
	r.enrol(a, api.Srp, "ann")
}

// P1002: MChange
func TestChange(t *testing.T) {
	for _, proto := range []int{api.Srp, api.Opq} {
		r := newRig(t)
		a, b := r.s.Open(), r.s.Open()
		r.enrol(a, api.Srp, "ann")
		older, token := r.login(a, api.Srp, "ann"), r.login(a, api.Srp, "ann")
		for range 3 {
			p := r.prover(api.Srp, "ann", nil)
			r.say(b, p.hello)
			r.say(b, api.Msg{Kind: api.MProve, Tag: []byte("x")})
		}
		r.s.Tick(3)
		rec := r.record(proto, "ann")
		rec.Tokens, rec.At, rec.Revoked = 9, 9, 9
		if proto == api.Srp {
			rec.Salt = []byte("new")
			rec.V = srp.Verifier(r.g, "ann", password("ann"), rec.Salt)
		}
		_, proof := r.begin(b, api.Srp, "ann")
		m := api.Msg{Kind: api.MChange, Proto: proto, Token: token, Record: r.written(rec)}
		r.wantError("from another channel", r.say(b, m), api.Refused)
		r.v.Fail(1)
		r.wantError("on a dying device", r.say(a, m), api.Dead)
		r.v.Again(nil)
		r.wantDone("change", r.say(a, m))
		rec.Tokens, rec.At, rec.Revoked = 1, 0, 1<<20+2
		if got := r.get("ann"); !bytes.Equal(r.written(got), r.written(rec)) {
			t.Errorf("kept: %v, not %v", got, rec)
		}
		r.wantError("change again", r.say(a, m), api.Refused)
		r.wantError("older", r.check(a, a, older), api.Refused)
		r.wantError("a run of the old record", r.say(b, api.Msg{Kind: api.MProve, Tag: proof}), api.Refused)
		r.wantDone("of the new record", r.check(b, b, r.login(b, proto, "ann")))
	}
}

// P1002: what MChange refuses.
func TestChangeErrors(t *testing.T) {
	r := newRig(t)
	conn := r.s.Open()
	r.enrol(conn, api.Opq, "ann")
	i := 0
	for what, set := range r.misfits() {
		i++
		token := r.login(conn, api.Opq, "ann")
		was := r.get("ann")
		rec := api.Record{Name: "ann"}
		set(&rec)
		got := r.say(conn, api.Msg{Kind: api.MChange, Proto: rec.Proto, Token: token, Record: r.written(rec)})
		if what[:4] == "fits" {
			r.wantDone(what, got)
			r.v.Put(was)
			continue
		}
		r.wantError(what, got, api.Refused)
		if got := r.get("ann"); !reflect.DeepEqual(got, was) {
			t.Errorf("%s: kept %v", what, got)
		}
	}
	token := r.login(conn, api.Opq, "ann")
	bob := r.record(api.Srp, "bob")
	r.wantError("of another name", r.say(conn, api.Msg{Kind: api.MChange, Proto: api.Srp, Token: token, Record: r.written(bob)}), api.Refused)
	ann := r.record(api.Srp, "ann")
	r.wantError("of the other way", r.say(conn, api.Msg{Kind: api.MChange, Proto: api.Opq, Token: token, Record: r.written(ann)}), api.Refused)
	r.wantError("of no record", r.say(conn, api.Msg{Kind: api.MChange, Proto: api.Srp, Token: token, Record: []byte("x")}), api.Refused)
	r.wantDone("the token is good still", r.check(conn, conn, token))
}

// P1002: MRefresh
func TestRefresh(t *testing.T) {
	r := newRig(t)
	a, b := r.s.Open(), r.s.Open()
	r.enrol(a, api.Srp, "ann")
	token := r.login(a, api.Srp, "ann")
	r.s.Tick(60)
	r.wantError("of another channel", r.say(a, api.Msg{Kind: api.MRefresh, Token: token, Channel: b}), api.Refused)
	m := r.say(b, api.Msg{Kind: api.MRefresh, Token: token, Channel: a})
	want := guard.Issue(r.tokenKey(1, 0), api.Token{Name: "ann", Id: 1<<20 + 1, Channel: a, End: 160, Era: 1})
	r.want("MProved", m, api.Msg{Kind: api.MProved, Token: want})
	r.s.Tick(40)
	r.wantError("the old one", r.say(a, api.Msg{Kind: api.MRefresh, Token: token, Channel: a}), api.Refused)
	r.wantDone("the new one", r.check(b, a, m.Token))
	again := r.say(a, api.Msg{Kind: api.MRefresh, Token: m.Token, Channel: a})
	if x, is := guard.Read(r.tokenKey(1, 0), again.Token); !is || x.Id != 1<<20+2 {
		t.Errorf("a third: %v, %v", x, is)
	}
}

// P1002: others
func TestOthers(t *testing.T) {
	r := newRig(t)
	conn := r.s.Open()
	for _, m := range []api.Msg{
		{Kind: api.MDone},
		{Kind: api.MError, E: api.Refused},
		{Kind: api.MProved, Token: []byte("t")},
		{Kind: api.MOffer, Proto: api.Srp, B: limb.From(4), Salt: []byte("s")},
		{Kind: api.MOffer, Proto: api.Opq, A: limb.From(4), B: limb.From(4), Seal: []byte("s")},
	} {
		r.wantError("others", r.say(conn, m), api.BadState)
	}
}

// answers are all messages of an answer.
func (r *rig) answers(b []byte) []api.Msg {
	r.Helper()
	stream := wire.New()
	stream.Write(b)
	var out []api.Msg
	for m, is := stream.Next(); is; m, is = stream.Next() {
		out = append(out, m)
	}
	stream.Write([]byte{0, 1, 7})
	if m, is := stream.Next(); !is || m.Kind != api.MDone {
		r.Fatalf("not whole messages: %x", b)
	}
	return out
}

// P1002 (T6): any pieces; each message has its own draw.
func TestPieces(t *testing.T) {
	r := newRig(t)
	conn := r.s.Open()
	r.enrol(conn, api.Srp, "ann")
	hello := r.prover(api.Srp, "ann", nil).hello
	done := r.encode(api.Msg{Kind: api.MDone})
	prove := r.encode(api.Msg{Kind: api.MProve, Tag: []byte("x")})
	var all []byte
	for _, b := range [][]byte{done, done, r.encode(hello), prove, done, prove, r.encode(hello)} {
		all = append(all, b...)
	}
	got := r.answers(r.s.Say(conn, append(all, 0), draw))
	if len(got) != 7 {
		t.Fatalf("%d answers", len(got))
	}
	rec := r.get("ann")
	r.want("the third", got[2], r.offerOf(rec, hello, 2))
	r.wantError("the fourth", got[3], api.Refused)
	r.wantError("the fifth", got[4], api.BadState)
	r.wantError("the sixth", got[5], api.BadState)
	r.want("the seventh", got[6], r.offerOf(rec, hello, 6))
	// the first byte of one waits
	if b := r.s.Say(conn, []byte{1}, draw); len(b) != 0 {
		t.Errorf("a piece is answered: %x", b)
	}
	r.wantError("the end of it", r.answers(r.s.Say(conn, []byte{7}, draw))[0], api.BadState)
	if b := r.s.Say(conn, nil, draw); len(b) != 0 {
		t.Errorf("nothing is answered: %x", b)
	}
	// byte by byte: each Say counts from 0
	r.say(conn, api.Msg{Kind: api.MProve, Tag: []byte("x")})
	for i, c := range r.encode(hello) {
		b := r.s.Say(conn, []byte{c}, draw)
		if i+1 < len(r.encode(hello)) && len(b) != 0 {
			t.Fatalf("byte %d is answered: %x", i, b)
		}
		if i+1 == len(r.encode(hello)) {
			r.want("at last", r.answers(b)[0], r.offerOf(rec, hello, 0))
		}
	}
}

// P1002: what is bad closes the connection, and ends its run; what was whole ahead is answered.
func TestBadFrame(t *testing.T) {
	for _, bad := range []string{"\x00\xc9", "\x00\x00", "\x00\x01\x0d", "\xff\xff", "\x00\x02\x07\x00"} {
		r := newRig(t)
		conn := r.s.Open()
		r.greet(conn, api.Srp, "nobody")
		got := r.answers(r.s.Say(conn, []byte("\x00\x01\x07"+bad+"\x00\x01\x07"), draw))
		if len(got) != 2 {
			t.Fatalf("%q: %v", bad, got)
		}
		r.wantError("ahead", got[0], api.BadState)
		r.wantError("what is bad", got[1], api.BadFrame)
		if r.s.Runs() != 0 || r.s.Close(conn) || len(r.s.Say(conn, []byte("\x00\x01\x07"), draw)) != 0 {
			t.Errorf("%q: not closed", bad)
		}
	}
}

// P1002: a connection that said 100000 bytes is bad by the next.
func TestTooMuch(t *testing.T) {
	r := newRig(t)
	conn := r.s.Open()
	done := []byte{0, 1, 7}
	for range 40 {
		if got := r.answers(r.s.Say(conn, bytes.Repeat(done, 833), draw)); len(got) != 833 {
			t.Fatalf("%d answers", len(got))
		}
	}
	if got := r.answers(r.s.Say(conn, bytes.Repeat(done, 20), draw)); len(got) != 20 {
		t.Fatalf("%d answers", len(got))
	}
	got := r.answers(r.s.Say(conn, done, draw))
	if len(got) != 1 || got[0].E != api.BadFrame || r.s.Close(conn) {
		t.Errorf("too much: %v", got)
	}
}

// P1, T6: any bytes are answered, or wait.
func TestAnyBytes(t *testing.T) {
	r := newRig(t)
	n := uint64(1)
	die := func(k int) int { n = n*6364136223846793005 + 1442695040888963407; return int(n>>33) % k }
	samples := [][]byte{r.encode(r.prover(api.Srp, "ann", nil).hello), r.encode(r.prover(api.Opq, "bob", nil).hello), r.encode(r.enrolMsg(r.record(api.Srp, "ann"))),
		r.encode(r.enrolMsg(r.record(api.Opq, "bob"))), r.encode(api.Msg{Kind: api.MProve, Tag: []byte("x")}), r.encode(api.Msg{Kind: api.MCheck, Token: make([]byte, 60), Channel: 1})}
	conn := r.s.Open()
	for range 3000 {
		b := append([]byte{}, samples[die(len(samples))]...)
		for range die(3) {
			b[die(len(b))] = byte(die(256))
		}
		r.answers(r.s.Say(conn, b, []byte{byte(die(256))}))
		if !r.s.Close(conn) || die(4) == 0 {
			conn = r.s.Open()
			continue
		}
		conn = r.s.Open()
		r.s.Tick(die(3))
	}
}

// P2, P3, P7
func TestOwn(t *testing.T) {
	play := func() []byte {
		r := newRig(t)
		conn := r.s.Open()
		clear(r.secret)
		r.secret = []byte("the server's")
		b := r.encode(r.enrolMsg(r.record(api.Srp, "ann")))
		room := append(b, "spare room"...)
		out := r.s.Say(conn, room[:len(b)], draw)
		if string(room[len(b):]) != "spare room" || string(draw) != "draw" {
			t.Error("what was handed in is changed")
		}
		clear(room)
		other := newRig(t)
		other.s.Open()
		other.s.Tick(5)
		if _, is := other.v.Get("ann"); is {
			t.Error("two servers touch one another")
		}
		return append(append(out, r.login(conn, api.Srp, "ann")...), r.encode(r.say(conn, r.prover(api.Opq, "x", nil).hello))...)
	}
	if a, b := play(), play(); !bytes.Equal(a, b) {
		t.Error("the same calls answer something else")
	}
}

// P1003 (T3): in any span no more runs are begun than the bucket holds, what it fills by, and as many as are confirmed.
func TestGuesses(t *testing.T) {
	r := newRig(t)
	n := uint64(1)
	die := func(k int) int { n = n*6364136223846793005 + 1442695040888963407; return int(n>>33) % k }
	const ticks = 250
	var begun, confirmed [ticks]int
	conn := r.s.Open()
	r.enrol(conn, api.Srp, "ann")
	for now := range ticks {
		for range die(3) {
			p := r.prover(api.Srp, "ann", password("ann"))
			m := r.say(conn, p.hello)
			if m.Kind != api.MOffer {
				r.wantError("MHello", m, api.Locked)
				continue
			}
			begun[now]++
			proof, _ := p.prove(m)
			if die(4) > 0 {
				proof[0] ^= 1
			}
			if r.say(conn, api.Msg{Kind: api.MProve, Tag: proof}).Kind == api.MProved {
				confirmed[now]++
			}
		}
		r.s.Tick(1)
	}
	for from := range ticks {
		sum, back := 0, 0
		for i := from; i < ticks; i++ {
			sum += begun[i]
			back += confirmed[i]
			if sum > 5+(i-from+9)/10+back {
				t.Fatalf("from %d to %d: %d begun, %d confirmed", from, i, sum, back)
			}
		}
	}
}

// P1003 (T4): wherever the device falls, an account is as it was, or as it was to be; what was answered is there.
func TestFalls(t *testing.T) {
	for after := range 3 {
		for torn := range 140 {
			r := newRig(t)
			conn := r.s.Open()
			r.enrol(conn, api.Srp, "ann")
			token := r.login(conn, api.Srp, "ann")
			was := r.get("ann")
			rec := r.record(api.Srp, "ann")
			rec.V = limb.From(4)
			r.v.Fail(after)
			m := r.say(conn, api.Msg{Kind: api.MChange, Proto: api.Srp, Token: token, Record: r.written(rec)})
			r.v.Again([]int{torn})
			got := r.get("ann")
			if isNew := got.V == rec.V && got.Revoked > was.Revoked; !isNew && !reflect.DeepEqual(got, was) || m.Kind == api.MDone && !isNew || after == 0 && isNew {
				t.Fatalf("Fail(%d), torn %d: %v, %v", after, torn, m, got)
			}
		}
	}
}
