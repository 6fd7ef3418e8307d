package world_test

import (
	"bytes"
	"math"
	"reflect"
	"strconv"
	"strings"
	"testing"

	"sentinel/api"
	"sentinel/group"
	"sentinel/limb"
	"sentinel/opq"
	"sentinel/sponge"
	"sentinel/srp"
	"sentinel/wire"
	"sentinel/words"
	"sentinel/world"
)

var secret = []byte("the world's")

// drawn is the draw behind n others.
func drawn(n int) []byte {
	sum := sponge.Of(secret, words.Eight(n))
	return sum[:]
}

// texts are bytes of strings.
func texts(s ...string) [][]byte {
	var out [][]byte
	for _, x := range s {
		out = append(out, []byte(x))
	}
	return out
}

func newWorld(passwords ...string) *world.World {
	return world.New(20, secret, texts(passwords...))
}

// settle lets all fly that flies between a client and the server.
func settle(w *world.World, client int) {
	for w.Up(client) || w.Down(client) {
	}
}

func want(t *testing.T, what string, w *world.World, client int, inside, waits bool, e api.Errno) {
	t.Helper()
	if gotInside, gotWaits, got := w.State(client); gotInside != inside || gotWaits != waits || got != e {
		t.Errorf("%s: State(%d): inside %v, waits %v, %v", what, client, gotInside, gotWaits, got)
	}
}

func wantAsk(t *testing.T, what string, w *world.World, client, kind int, e api.Errno) {
	t.Helper()
	if got := w.Ask(client, kind); got != e {
		t.Errorf("%s: Ask(%d, %d): %v, not %v", what, client, kind, got, e)
	}
}

// in enrols a client, and lets it in.
func in(t *testing.T, w *world.World, client, proto int) {
	t.Helper()
	w.Enrol(client, proto)
	settle(w, client)
	login(t, w, client, proto)
}

func login(t *testing.T, w *world.World, client, proto int) {
	t.Helper()
	w.Login(client, proto)
	settle(w, client)
	want(t, "login", w, client, true, false, api.OK)
}

// P1201 (T1): whole ones, step by step.
func TestLogin(t *testing.T) {
	for _, proto := range []int{api.Srp, api.Opq} {
		w := newWorld("secret")
		want(t, "new", w, 0, false, false, api.OK)
		if w.Up(0) || w.Down(0) {
			t.Error("something flies in a new one")
		}
		for i, step := range []struct {
			do     func() bool
			inside bool
			waits  bool
		}{
			{func() bool { return w.Enrol(0, proto) }, false, true},
			{func() bool { return !w.Down(0) }, false, true},
			{func() bool { return w.Up(0) }, false, true},
			{func() bool { return !w.Up(0) }, false, true},
			{func() bool { return w.Down(0) }, false, false},
			{func() bool { return !w.Up(0) && !w.Down(0) }, false, false},
			{func() bool { return w.Login(0, proto) && w.Up(0) && w.Down(0) }, false, true},
			{func() bool { return w.Up(0) && !w.Up(0) && w.Down(0) }, true, false},
			{func() bool { return !w.Up(0) && !w.Down(0) }, true, false},
			{func() bool { return w.Login(0, proto) }, false, true},
		} {
			if !step.do() {
				t.Fatalf("step %d", i)
			}
			want(t, "step "+strconv.Itoa(i), w, 0, step.inside, step.waits, api.OK)
		}
	}
}

// P1201: names, passwords, draws: what the server keeps, to the byte.
func TestKept(t *testing.T) {
	g, _ := group.Make(20)
	long := strings.Repeat("0123456789", 7)
	w := newWorld("a", long)
	w.Enrol(0, 9) // a draw goes by all the same
	w.Login(0, 0)
	w.Enrol(1, api.Srp) // draw 2
	w.Up(1)             // 3
	w.Enrol(0, api.Opq) // 4
	w.Up(0)             // 5
	salt := sponge.Of([]byte("salt"), drawn(2))
	wanted := api.Record{Proto: api.Srp, Name: "user1", Salt: salt[:], V: srp.Verifier(g, "user1", []byte(long[:64]), salt[:]), Tokens: 5}
	if r, is := w.Record(1); !is || !reflect.DeepEqual(r.Salt, wanted.Salt) || r.V != wanted.V || r.Name != wanted.Name || r.Tokens != 5 {
		t.Errorf("user1: %v, %v", r, is)
	}
	key := sponge.Of([]byte("key"), drawn(4))
	rec := opq.Enrol(g, "user0", []byte("a"), drawn(4), group.Exponent(g, key[:]), opq.Public(g, secret))
	if r, is := w.Record(0); !is || r.V != rec.V || r.Key != rec.Key || !bytes.Equal(r.Seal, rec.Seal) {
		t.Errorf("user0: %v, %v", r, is)
	}
}

// P1201: each Say has a draw, of Inject and Ask too; of one that is not, none is drawn.
func TestDraws(t *testing.T) {
	g, _ := group.Make(20)
	w := newWorld("a", "b")
	in(t, w, 0, api.Srp) // 0, 1; 2, 3, 4
	w.Inject(0, []byte{0, 1, 7})
	w.Inject(0, nil)                       // 5, 6
	w.Ask(0, api.MCheck)                   // 7
	w.Ask(0, api.MHello)                   // none
	w.Ask(1, api.MCheck)                   // none
	w.Enrol(7, api.Srp)                    // none
	w.Login(-1, api.Srp)                   // none
	w.Inject(2, []byte{0, 1, 7})           // none
	_ = w.Up(0) || w.Down(0) || w.Up(1)    // none
	_ = w.Lose(1, true) || w.Lose(0, true) // none
	w.Login(1, api.Srp)                    // 8
	w.Lose(1, true)
	w.Tick(1)
	w.Crash(nil)
	w.Enrol(1, api.Srp) // 9
	w.Up(1)
	salt := sponge.Of([]byte("salt"), drawn(9))
	if r, is := w.Record(1); !is || !bytes.Equal(r.Salt, salt[:]) || r.V != srp.Verifier(g, "user1", []byte("b"), salt[:]) {
		t.Errorf("user1: %v, %v", r, is)
	}
}

// P1201 (T1): what a server draws: of this secret the fourth draw leaves it a B of 0, which it refuses; what was
// charged stays.
func TestServerDraws(t *testing.T) {
	w := world.New(14, []byte("s4824"), texts("secret"))
	w.Enrol(0, api.Srp)
	settle(w, 0)
	w.Login(0, api.Srp)
	settle(w, 0)
	want(t, "the fourth draw", w, 0, false, false, api.Refused)
	if r, _ := w.Record(0); r.Tokens != 4 {
		t.Errorf("%d tokens", r.Tokens)
	}
	login(t, w, 0, api.Srp)
}

// P1201: bits out of bounds are as 16; clients beyond eight are left out.
func TestNew(t *testing.T) {
	for _, bits := range []int{11, 32, 0, -1, 16, math.MinInt, math.MaxInt} {
		w := world.New(bits, secret, texts("a"))
		w.Enrol(0, api.Opq)
		settle(w, 0)
		g, _ := group.Make(16)
		key := sponge.Of([]byte("key"), drawn(0))
		if r, is := w.Record(0); !is || r.Key != group.Exponent(g, key[:]) {
			t.Errorf("%d bits: %v", bits, r)
		}
	}
	for _, bits := range []int{12, 31} {
		w := world.New(bits, secret, texts("a"))
		in(t, w, 0, api.Opq)
		g, _ := group.Make(bits)
		key := sponge.Of([]byte("key"), drawn(0))
		if r, is := w.Record(0); !is || r.Key != group.Exponent(g, key[:]) {
			t.Errorf("%d bits: %v", bits, r)
		}
	}
	w := world.New(12, nil, texts("0", "1", "2", "3", "4", "5", "6", "7", "8", "9"))
	for i := range 8 {
		in(t, w, i, 1+i%2)
		if r, is := w.Record(i); !is || r.Name != "user"+strconv.Itoa(i) {
			t.Errorf("client %d: %v", i, r)
		}
	}
	for _, i := range []int{8, 9, -1, math.MaxInt, math.MinInt} {
		if w.Enrol(i, 1) || w.Login(i, 1) || w.Up(i) || w.Down(i) || w.Lose(i, true) || w.Lose(i, false) {
			t.Errorf("client %d does something", i)
		}
		w.Inject(i, []byte{0, 1, 7})
		wantAsk(t, "none", w, i, api.MCheck, api.BadState)
		want(t, "none", w, i, false, false, api.BadState)
		if r, is := w.Record(i); is || !reflect.DeepEqual(r, api.Record{}) {
			t.Errorf("client %d: %v", i, r)
		}
	}
	w = world.New(12, nil, nil)
	w.Tick(1)
	w.Fail(0)
	w.Crash(nil)
	want(t, "nobody", w, 0, false, false, api.BadState)
}

// P1201: any proto; what is not said flies not.
func TestOtherProto(t *testing.T) {
	w := newWorld("a")
	in(t, w, 0, api.Srp)
	for _, proto := range []int{0, 3, -1} {
		if !w.Enrol(0, proto) || !w.Login(0, proto) || w.Up(0) {
			t.Errorf("proto %d", proto)
		}
		want(t, "another proto", w, 0, true, false, api.OK)
	}
}

// P1201: the first of what flies, each way; Lose.
func TestFlight(t *testing.T) {
	w := newWorld("a", "b")
	w.Login(0, api.Srp) // nobody's yet
	w.Enrol(0, api.Srp)
	w.Enrol(0, api.Srp)
	if !w.Up(0) {
		t.Error("Up")
	}
	if _, is := w.Record(0); is {
		t.Error("the second flew first")
	}
	if !w.Up(0) || !w.Up(0) || w.Up(0) {
		t.Error("three fly up")
	}
	if _, is := w.Record(0); !is {
		t.Error("the second flew not")
	}
	if !w.Lose(0, false) || w.Lose(0, true) || w.Lose(1, false) {
		t.Error("Lose")
	}
	// MDone of the first Enrol, then the error of the second
	if !w.Down(0) {
		t.Error("Down")
	}
	want(t, "MDone", w, 0, false, false, api.OK)
	if !w.Down(0) || w.Down(0) {
		t.Error("two fly down")
	}
	want(t, "an error that is not waited for", w, 0, false, false, api.BadState)
	w.Tick(20)
	w.Login(0, api.Srp)
	w.Login(0, api.Srp)
	if !w.Lose(0, true) || !w.Up(0) || w.Up(0) || !w.Down(0) || !w.Lose(0, true) || w.Lose(0, true) {
		t.Error("Lose of what flies up")
	}
	want(t, "its proof is lost", w, 0, false, true, api.OK)
	w.Login(0, api.Srp)
	settle(w, 0)
	want(t, "its run is there still", w, 0, false, false, api.BadState)
	w.Tick(20)
	login(t, w, 0, api.Srp)
}

// P1201: the last error that was heard.
func TestErrors(t *testing.T) {
	w := newWorld("a")
	w.Enrol(0, api.Srp)
	settle(w, 0)
	w.Enrol(0, api.Srp)
	settle(w, 0)
	want(t, "enrol twice", w, 0, false, false, api.Exists)
	w.Login(0, api.Srp)
	want(t, "kept till it hears again", w, 0, false, true, api.Exists)
	w.Up(0)
	w.Down(0)
	want(t, "heard", w, 0, false, true, api.OK)
	settle(w, 0)
	want(t, "heard", w, 0, true, false, api.OK)
	w.Login(0, api.Opq)
	settle(w, 0)
	want(t, "the other way", w, 0, false, false, api.Refused)
}

// P1201: Inject: its answers are lost; what is bad closes the connection, which is opened anew.
func TestInject(t *testing.T) {
	w := newWorld("a", "b")
	in(t, w, 0, api.Srp)
	w.Inject(0, []byte{0, 1, 7})
	if w.Down(0) {
		t.Error("what was injected is answered to the client")
	}
	wantAsk(t, "its own connection", w, 0, api.MCheck, api.OK)
	w.Inject(0, []byte{0, 1, 7, 255, 255})
	wantAsk(t, "a new connection", w, 0, api.MCheck, api.Refused)
	login(t, w, 0, api.Srp)
	wantAsk(t, "a token of it", w, 0, api.MCheck, api.OK)
	// a run of a connection that was closed is no more
	w.Login(0, api.Srp)
	w.Up(0)
	w.Down(0)
	w.Inject(0, []byte{255, 255})
	settle(w, 0)
	want(t, "no run", w, 0, false, false, api.BadState)
	w.Inject(0, []byte{255, 255})
	w.Inject(0, []byte{255, 255})
	login(t, w, 0, api.Srp)
	// a piece that waits spoils what comes behind it
	w.Inject(0, []byte{0})
	w.Login(0, api.Srp)
	settle(w, 0)
	want(t, "behind a piece", w, 0, false, false, api.BadFrame)
	login(t, w, 0, api.Srp)
	want(t, "beside it", w, 1, false, false, api.OK)
}

// P1202: Ask
func TestAsk(t *testing.T) {
	for _, proto := range []int{api.Srp, api.Opq} {
		w := newWorld("a", "b")
		for kind := -1; kind < 14; kind++ {
			wantAsk(t, "not inside", w, 0, kind, api.BadState)
		}
		in(t, w, 0, proto)
		for kind := -1; kind < 14; kind++ {
			if kind < api.MCheck || kind == api.MChange || kind > api.MRefresh {
				wantAsk(t, "others", w, 0, kind, api.BadState)
			}
		}
		wantAsk(t, "check", w, 0, api.MCheck, api.OK)
		wantAsk(t, "refresh", w, 0, api.MRefresh, api.OK)
		wantAsk(t, "revoke", w, 0, api.MRevoke, api.OK)
		wantAsk(t, "revoked", w, 0, api.MCheck, api.Refused)
		wantAsk(t, "revoked", w, 0, api.MRevoke, api.Refused)
		wantAsk(t, "revoked", w, 0, api.MRefresh, api.Refused)
		want(t, "inside all the same", w, 0, true, false, api.OK)
		login(t, w, 0, proto)
		wantAsk(t, "delete", w, 0, api.MDelete, api.OK)
		if _, is := w.Record(0); is {
			t.Error("still there")
		}
		wantAsk(t, "deleted", w, 0, api.MCheck, api.Refused)
		in(t, w, 0, proto)
		w.Login(0, proto)
		wantAsk(t, "not inside any more", w, 0, api.MCheck, api.BadState)
	}
}

// P1202: what Ask answers where nothing, or something else, is answered.
func TestAskBehindPieces(t *testing.T) {
	w := newWorld("a")
	in(t, w, 0, api.Srp)
	w.Inject(0, []byte{0, 200, 11})
	wantAsk(t, "swallowed", w, 0, api.MCheck, api.BadState)
	w.Inject(0, make([]byte, 200))
	login(t, w, 0, api.Srp)
	w.Inject(0, []byte{0})
	wantAsk(t, "spoiled", w, 0, api.MCheck, api.BadFrame)
	wantAsk(t, "on a new connection", w, 0, api.MCheck, api.Refused)
}

// P1202: a refreshed token counts till the next login.
func TestRefresh(t *testing.T) {
	w := newWorld("a")
	in(t, w, 0, api.Srp)
	w.Tick(90)
	wantAsk(t, "refresh", w, 0, api.MRefresh, api.OK)
	w.Tick(50)
	wantAsk(t, "the refreshed one", w, 0, api.MCheck, api.OK)
	w.Tick(49)
	wantAsk(t, "refresh again", w, 0, api.MRefresh, api.OK)
	w.Tick(99)
	wantAsk(t, "at 99 ticks", w, 0, api.MCheck, api.OK)
	w.Tick(1)
	wantAsk(t, "at 100 ticks", w, 0, api.MCheck, api.Refused)
	login(t, w, 0, api.Srp)
	wantAsk(t, "of the new login", w, 0, api.MCheck, api.OK)
	w.Tick(99)
	wantAsk(t, "refresh", w, 0, api.MRefresh, api.OK)
	login(t, w, 0, api.Srp)
	w.Tick(99)
	wantAsk(t, "of the newest login", w, 0, api.MCheck, api.OK)
	w.Tick(1)
	wantAsk(t, "of the newest login", w, 0, api.MCheck, api.Refused)
}

// P1202: Tick reaches the server.
func TestTick(t *testing.T) {
	w := newWorld("a")
	w.Enrol(0, api.Srp)
	settle(w, 0)
	for range 5 {
		w.Login(0, api.Srp)
		w.Up(0)
		w.Lose(0, false)
		w.Inject(0, []byte{255, 255}) // ends the run
	}
	w.Login(0, api.Srp)
	settle(w, 0)
	want(t, "a sixth", w, 0, false, false, api.Locked)
	w.Tick(-5)
	w.Tick(0)
	w.Tick(9)
	w.Login(0, api.Srp)
	settle(w, 0)
	want(t, "at 9", w, 0, false, false, api.Locked)
	w.Tick(1)
	login(t, w, 0, api.Srp)
}

// P1202: Crash
func TestCrash(t *testing.T) {
	w := newWorld("a", "b", "c")
	in(t, w, 0, api.Srp)
	in(t, w, 1, api.Opq)
	w.Enrol(2, api.Srp)
	w.Up(2)
	w.Login(1, api.Opq)
	w.Enrol(1, api.Srp)
	settle(w, 1)
	want(t, "ahead", w, 1, false, false, api.BadState)
	was, _ := w.Record(0)
	w.Login(1, api.Opq)
	w.Up(1)
	w.Tick(1000)
	w.Crash(nil)
	for i := range 3 {
		want(t, "behind", w, i, false, false, api.OK)
		if w.Up(i) || w.Down(i) {
			t.Errorf("something flies of %d", i)
		}
		wantAsk(t, "behind", w, i, api.MCheck, api.BadState)
	}
	if r, is := w.Record(0); !is || !reflect.DeepEqual(r, was) {
		t.Errorf("kept: %v, not %v", r, was)
	}
	login(t, w, 1, api.Opq)
	wantAsk(t, "a new token", w, 1, api.MCheck, api.OK)
	login(t, w, 0, api.Srp)
	login(t, w, 2, api.Srp)
}

// P1202: a new server has no runs, and its time begins anew.
func TestCrashServer(t *testing.T) {
	w := newWorld("a", "b", "c", "d", "e")
	w.Tick(1000)
	w.Enrol(4, api.Srp)
	settle(w, 4)
	if r, _ := w.Record(4); r.At != 1000 {
		t.Errorf("at %d", r.At)
	}
	for i := range 4 {
		w.Login(i, api.Opq)
		w.Up(i)
	}
	w.Login(4, api.Srp)
	settle(w, 4)
	want(t, "four runs", w, 4, false, false, api.Busy)
	w.Crash(nil)
	login(t, w, 4, api.Srp)
	in(t, w, 0, api.Srp)
	if r, _ := w.Record(0); r.At != 0 {
		t.Errorf("at %d behind it", r.At)
	}
}

// P1202: Fail, and what is torn
func TestFail(t *testing.T) {
	for after := range 3 {
		for _, torn := range [][]int{nil, {30}, {1000}} {
			w := newWorld("a")
			w.Fail(after)
			w.Enrol(0, api.Srp)
			settle(w, 0)
			e := api.Dead
			if after == 2 {
				e = api.OK
			}
			want(t, "enrol", w, 0, false, false, e)
			w.Crash(torn)
			whole := after == 2 || after == 1 && len(torn) > 0 && torn[0] == 1000
			if _, is := w.Record(0); is != whole {
				t.Errorf("Fail(%d), Crash(%v): %v", after, torn, is)
			}
			w.Enrol(0, api.Srp)
			settle(w, 0)
			if whole {
				want(t, "enrol again", w, 0, false, false, api.Exists)
			} else {
				want(t, "enrol again", w, 0, false, false, api.OK)
			}
			login(t, w, 0, api.Srp)
		}
	}
	w := newWorld("a")
	in(t, w, 0, api.Srp)
	w.Fail(-1)
	wantAsk(t, "never", w, 0, api.MRevoke, api.OK)
	login(t, w, 0, api.Srp)
	w.Fail(0)
	wantAsk(t, "at once", w, 0, api.MDelete, api.Dead)
	wantAsk(t, "dead", w, 0, api.MRevoke, api.Dead)
	wantAsk(t, "no step", w, 0, api.MCheck, api.OK)
}

// P1203 (T4, T6): by many calls, with anything injected, lost and fallen: what answers an error changes no account, a
// fall none but the one that was on its way, and clients come in all the same.
func TestPlays(t *testing.T) {
	n := uint64(7)
	die := func(k int) int { n = n*6364136223846793005 + 1442695040888963407; return int(n>>33) % k }
	hello, _ := wire.Encode(api.Msg{Kind: api.MHello, Proto: api.Srp, Name: "user0", A: limb.From(4)})
	prove, _ := wire.Encode(api.Msg{Kind: api.MProve, Tag: make([]byte, 16)})
	junk := [][]byte{{0}, {0, 1, 7}, {255, 255}, hello, prove, append(append([]byte{}, hello...), prove...)}
	seen := 0
	for round := range 60 {
		w := world.New(12+round%20, []byte{byte(round)}, texts("a", "b", "c"))
		for range 150 {
			c := die(4)
			switch die(12) {
			case 0:
				w.Enrol(c, die(4))
			case 1:
				w.Login(c, die(4))
			case 2:
				w.Enrol(c, 1+c%2)
				settle(w, c)
				w.Login(c, 1+c%2)
				settle(w, c)
			case 3, 4, 5:
				w.Up(c)
				w.Down(c)
			case 6:
				w.Down(c)
			case 7:
				w.Lose(c, die(2) == 0)
			case 8:
				if die(4) == 0 {
					w.Inject(c, junk[die(len(junk))])
				}
			case 9:
				before, there := w.Record(c)
				e := w.Ask(c, []int{api.MCheck, api.MRefresh, api.MRevoke, api.MDelete}[die(4)])
				after, still := w.Record(c)
				if e != api.OK && (there != still || !reflect.DeepEqual(before, after)) {
					t.Fatalf("an error changed %v to %v", before, after)
				}
			case 10:
				w.Tick(die(15))
			case 11:
				if die(3) == 0 {
					w.Fail(die(5))
				}
				if die(4) == 0 {
					var was [3]api.Record
					for i := range was {
						was[i], _ = w.Record(i)
					}
					w.Crash([]int{die(30)})
					for i := range was {
						if r, _ := w.Record(i); !reflect.DeepEqual(r, was[i]) {
							t.Fatalf("a fall changed %v to %v", was[i], r)
						}
					}
				}
			}
			if inside, _, _ := w.State(c); inside {
				seen++
			}
		}
	}
	if seen < 100 {
		t.Errorf("inside %d times alone", seen)
	}
}

// P2, P3, P7
func TestOwn(t *testing.T) {
	play := func() api.Record {
		room := []byte("secretpasswordmore")
		clients := [][]byte{room[6:14]}
		w := world.New(20, room[:6], clients)
		other := world.New(20, room[:6], clients)
		if string(room) != "secretpasswordmore" {
			t.Error("what was handed in is changed")
		}
		clear(room)
		in(t, w, 0, api.Opq)
		w.Crash(nil)
		login(t, w, 0, api.Opq)
		if _, is := other.Record(0); is {
			t.Error("two worlds touch one another")
		}
		r, _ := w.Record(0)
		again, _ := w.Record(0)
		clear(again.Seal)
		if now, _ := w.Record(0); !reflect.DeepEqual(now, r) {
			t.Error("Record shares memory")
		}
		return r
	}
	if a, b := play(), play(); !reflect.DeepEqual(a, b) {
		t.Error("the same calls answer something else")
	}
}
