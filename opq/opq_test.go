package opq_test

import (
	"encoding/hex"
	"reflect"
	"strings"
	"testing"

	"sentinel/api"
	"sentinel/group"
	"sentinel/limb"
	"sentinel/opq"
	"sentinel/sponge"
)

func must(t *testing.T, bits int) api.Group {
	t.Helper()
	g, is := group.Make(bits)
	if !is {
		t.Fatalf("Make(%d): false", bits)
	}
	return g
}

func raw(s string) []byte {
	b, _ := hex.DecodeString(s)
	return b
}

func sum(s string) api.Sum { return api.Sum(raw(s)) }

// top is 2^256 - 1.
func top() api.Num {
	a, _ := limb.Sub(api.Num{}, limb.From(1))
	return a
}

func low(a api.Num) int { return int(a[0]) | int(a[1])<<32 }

// known are whole logins, and fakes, that were reckoned apart.
var known = []struct {
	bits                                            int
	name, pass, secret, drawC                       string
	key                                             int
	drawA, drawB                                    string
	public, v, c                                    int
	seal                                            string
	r, blind, own, mine, eval, serverOwn, serverOut int
	sumKey, first, second                           string
	fakeSalt                                        string
	fakeKey, fakeV                                  int
	fakeSeal                                        string
}{
	{12, "ann", "secret", "srv", "c", 5, "d1", "d2",
		2788, 676, 1531, "1c2d3568919372ac9eaa1a375e3baa46dd725224",
		777, 1599, 262, 638, 863, 1357, 343,
		"66b7fb3054ad2ffef0ef71a0134af0cb", "1bd0d18e8fd6709ce085abbc2b1343d9", "b7cb42eb8857b85caf44622e57d08cc2",
		"5b26143ae37a90dc9a082fabf84478d3", 1051, 1295, "87ef7cebc00acd54b002818d3bcccefd93bc80c4"},
	{16, "user0", "", "", "", 1, "", "",
		49147, 37228, 18072, "28d3d1532fbf2a49773b250e961c8a1a4863e645",
		18642, 21717, 6234, 4916, 21717, 10600, 50071,
		"097ec548ce0acf26bc7c0875f27cc737", "b5ce7292c9e4d05ba553b5314616c925", "da0d07b60a3275724ab0f0c35311c799",
		"997e689f84b4b520f33d8fe40b796766", 17375, 54762, "a6e4ebf2e3c02376314a7b21498eb67d5e064a15"},
	{31, "bob!", "pass word", "0123456789abcdef", "x", 1073741788, "y", "z",
		280587823, 1328389298, 1049185505, "53be24ad4334ed756b2454249104e6396cd55e66",
		609567135, 1015102393, 1049030209, 1377570795, 418105696, 743636242, 260457161,
		"7f02be9046ce7e5897421b30314ff927", "d53bd8f516c485bc43c0f177d085ec0d", "66bb0f45f5441cd69ac391119adbdc1c",
		"fbc45feea696408ceb8630b7768fb223", 188181440, 1606752454, "8871591947aec5fd2e4f118e47ab9d8af113e539"},
}

// P801, P802, P803: every number, every field.
func TestKnown(t *testing.T) {
	for _, k := range known {
		g := must(t, k.bits)
		pass, secret := []byte(k.pass), []byte(k.secret)
		public := opq.Public(g, secret)
		if public != limb.From(k.public) {
			t.Errorf("%s: Public: %v", k.name, public)
		}
		r := opq.Enrol(g, k.name, pass, []byte(k.drawC), limb.From(k.key), public)
		if want := (api.Record{Proto: api.Opq, Name: k.name, V: limb.From(k.v), Key: limb.From(k.key), Seal: raw(k.seal)}); !reflect.DeepEqual(r, want) {
			t.Errorf("%s: Enrol: %v", k.name, r)
		}
		client, blind, mine := opq.Hello(g, k.name, pass, []byte(k.drawA))
		wanted := opq.Side{G: g, Name: k.name, Pass: client.Pass, R: limb.From(k.r), Own: limb.From(k.own), Blind: limb.From(k.blind), Mine: limb.From(k.mine)}
		if !reflect.DeepEqual(client, wanted) || string(client.Pass) != k.pass || blind != wanted.Blind || mine != wanted.Mine {
			t.Errorf("%s: Hello: %v, %v, %v", k.name, client, blind, mine)
		}
		server, eval, out, seal, is := opq.Offer(g, r, secret, blind, mine, []byte(k.drawB))
		wanted = opq.Side{G: g, Name: k.name, Own: limb.From(k.serverOwn), Blind: blind, Mine: limb.From(k.serverOut), Peer: mine, Static: r.V, Key: sum(k.sumKey), Proof: sum(k.first)}
		if !is || !reflect.DeepEqual(server, wanted) || eval != limb.From(k.eval) || out != wanted.Mine || hex.EncodeToString(seal) != k.seal {
			t.Errorf("%s: Offer: %v, %v, %v, %x, %v", k.name, server, eval, out, seal, is)
		}
		proved, first, is := opq.Prove(client, eval, out, public, seal)
		wanted = client
		wanted.Pass, wanted.Peer, wanted.Server, wanted.Static, wanted.Key, wanted.Proof = proved.Pass, out, public, r.V, sum(k.sumKey), sum(k.first)
		if !is || !reflect.DeepEqual(proved, wanted) || string(proved.Pass) != k.pass || first != sum(k.first) {
			t.Errorf("%s: Prove: %v, %x, %v", k.name, proved, first, is)
		}
		second, is := opq.Check(server, first[:])
		if !is || second != sum(k.second) || !opq.Done(proved, second[:]) {
			t.Errorf("%s: Check: %x, %v", k.name, second, is)
		}
		want := api.Record{Proto: api.Opq, Name: k.name, Salt: raw(k.fakeSalt), Key: limb.From(k.fakeKey), V: limb.From(k.fakeV), Seal: raw(k.fakeSeal)}
		if fake := opq.Fake(g, secret, k.name); !reflect.DeepEqual(fake, want) {
			t.Errorf("%s: Fake: %v", k.name, fake)
		}
	}
}

// P804 (T1, T2): by the password, and by no other; for another server, or by another secret, neither.
func TestBothComeToOneKey(t *testing.T) {
	for _, bits := range []int{12, 13, 16, 22, 31} {
		g := must(t, bits)
		secret := []byte("the server's")
		public := opq.Public(g, secret)
		for draw := range 60 {
			d := []byte{byte(draw)}
			key := group.Exponent(g, append(d, 'k'))
			r := opq.Enrol(g, "ann", []byte("secret"), append(d, 'c'), key, public)
			for i, c := range []struct {
				pass   string
				secret string
				public api.Num
				want   bool
			}{{"secret", "the server's", public, true}, {"Secret", "the server's", public, false}, {"secret", "another", public, false}, {"secret", "the server's", limb.From(4), false}} {
				client, blind, mine := opq.Hello(g, "ann", []byte(c.pass), d)
				server, eval, out, seal, is := opq.Offer(g, r, []byte(c.secret), blind, mine, append(d, 'd'))
				if !is {
					t.Fatalf("%d bits, draw %d: Offer: false", bits, draw)
				}
				client, first, proved := opq.Prove(client, eval, out, c.public, seal)
				second, checked := opq.Check(server, first[:])
				confirmed := proved && checked && opq.Done(client, second[:])
				if confirmed != c.want || confirmed && client.Key != server.Key {
					t.Fatalf("%d bits, draw %d, case %d: %v", bits, draw, i, confirmed)
				}
			}
		}
	}
}

// P802: what Offer refuses.
func TestOfferFalse(t *testing.T) {
	g := must(t, 16)
	four := limb.From(4)
	over, _ := limb.Add(g.P, four)
	for _, bad := range []api.Num{{}, limb.From(1), limb.From(65266), limb.From(65263), g.P, over, top()} {
		for i, c := range [][3]api.Num{{bad, four, four}, {four, bad, four}, {four, four, bad}} {
			s, eval, mine, seal, is := opq.Offer(g, api.Record{Name: "ann", V: c[2], Key: limb.From(3), Seal: []byte("seal")}, nil, c[0], c[1], nil)
			if is || !reflect.DeepEqual(s, opq.Side{}) || eval != (api.Num{}) || mine != (api.Num{}) || len(seal) != 0 {
				t.Errorf("Offer of %v at %d: %v, %v, %v, %v, %v", bad, i, s, eval, mine, seal, is)
			}
		}
	}
	if _, eval, _, seal, is := opq.Offer(g, api.Record{Name: "ann", V: four, Key: limb.From(3), Seal: []byte("seal")}, nil, four, four, nil); !is || eval != limb.From(64) || string(seal) != "seal" {
		t.Errorf("Offer: %v, %q, %v", eval, seal, is)
	}
}

// sealed is a seal of any number by hand.
func sealed(word api.Sum, c uint32, server api.Num, name string) []byte {
	four := []byte{byte(c >> 24), byte(c >> 16), byte(c >> 8), byte(c)}
	for i, x := range sponge.Stream(word[:], 4) {
		four[i] ^= x
	}
	mark := sponge.Mac(word[:], []byte("seal"), four, limb.Bytes(server), []byte(name))
	return append(four, mark[:]...)
}

// P803: what Prove refuses.
func TestProveFalse(t *testing.T) {
	g := must(t, 16)
	pass, secret := []byte("secret"), []byte("srv")
	public := opq.Public(g, secret)
	key := limb.From(77)
	r := opq.Enrol(g, "ann", pass, []byte("c"), key, public)
	client, blind, mine := opq.Hello(g, "ann", pass, []byte("d"))
	_, eval, out, seal, _ := opq.Offer(g, r, secret, blind, mine, []byte("e"))
	refused := func(what string, s opq.Side, eval, theirs, server api.Num, seal []byte) {
		t.Helper()
		if got, proof, is := opq.Prove(s, eval, theirs, server, seal); is || proof != (api.Sum{}) || !reflect.DeepEqual(got, opq.Side{}) {
			t.Errorf("Prove of %s: %v, %v, %v", what, got, proof, is)
		}
	}
	if _, _, is := opq.Prove(client, eval, out, public, seal); !is {
		t.Fatal("Prove: false")
	}
	for _, bad := range []api.Num{{}, limb.From(1), limb.From(65266), g.P, top()} {
		refused("eval", client, bad, out, public, seal)
		refused("theirs", client, eval, bad, public, seal)
		refused("server", client, eval, out, bad, seal)
	}
	refused("no seal", client, eval, out, public, nil)
	refused("a short seal", client, eval, out, public, seal[:19])
	refused("a long seal", client, eval, out, public, append(append([]byte{}, seal...), 0))
	for i := range seal {
		other := append([]byte{}, seal...)
		other[i] ^= 16
		refused("a changed seal", client, eval, out, public, other)
	}
	refused("another eval", client, group.Times(g, eval, limb.From(4)), out, public, seal)
	noR := client
	noR.R = api.Num{}
	refused("no R", noR, eval, out, public, seal)
	named := client
	named.Name = "bob"
	refused("another name", named, eval, out, public, seal)
	text := sponge.Of([]byte("w"), pass, limb.Bytes(group.Raise(g, group.Into(g, pass), key)))
	word := sponge.Stretch(text[:], []byte("ann"), 3)
	for c, want := range map[uint32]bool{0: false, 1: true, 2: true, uint32(low(g.Q)) - 1: true, uint32(low(g.Q)): false, uint32(low(g.Q)) + 1: false, 1<<32 - 1: false} {
		s, _, is := opq.Prove(client, eval, out, public, sealed(word, c, public, "ann"))
		if is != want || is && s.Static != group.Raise(g, g.G, limb.From(int(c))) {
			t.Errorf("Prove of a seal of %d: %v, %v", c, s, is)
		}
	}
}

// P803: Check, Done
func TestCheckDone(t *testing.T) {
	s := opq.Side{Key: sum(known[0].sumKey), Proof: sum(known[0].first)}
	right, second := sum(known[0].first), sum(known[0].second)
	if got, is := opq.Check(s, right[:]); !is || got != second || !opq.Done(s, second[:]) {
		t.Error("the right ones")
	}
	for _, b := range [][]byte{nil, {}, right[:15], append(right[:], 0), second[:15], append(second[:], 0)} {
		if got, is := opq.Check(s, b); is || got != (api.Sum{}) {
			t.Errorf("Check(%x)", b)
		}
		if opq.Done(s, b) {
			t.Errorf("Done(%x)", b)
		}
	}
	if _, is := opq.Check(s, second[:]); is || opq.Done(s, right[:]) {
		t.Error("the other side's proof")
	}
	for i := range 16 {
		a, b := right, second
		a[i] ^= 128
		b[i] ^= 128
		if got, is := opq.Check(s, a[:]); is || got != (api.Sum{}) || opq.Done(s, b[:]) {
			t.Errorf("byte %d changed", i)
		}
	}
}

// P803: a Fake is one that the group has, and can be offered, but never confirmed.
func TestFake(t *testing.T) {
	for _, bits := range []int{12, 31} {
		g := must(t, bits)
		for i := range 50 {
			name := strings.Repeat("n", 1+i%16)
			fake := opq.Fake(g, []byte{byte(i)}, name)
			if !group.Has(g, fake.V) || limb.Bits(fake.Key) == 0 || limb.Cmp(fake.Key, g.Q) >= 0 || len(fake.Salt) != 16 || len(fake.Seal) != 20 {
				t.Fatalf("Fake: %v", fake)
			}
			client, blind, mine := opq.Hello(g, name, []byte("secret"), []byte{byte(i)})
			_, eval, out, seal, is := opq.Offer(g, fake, nil, blind, mine, nil)
			if _, _, proved := opq.Prove(client, eval, out, opq.Public(g, nil), seal); !is || proved {
				t.Fatalf("Fake: offered %v, proved %v", is, proved)
			}
		}
	}
}

// P2
func TestHandedIn(t *testing.T) {
	g := must(t, 16)
	room := []byte("passdrawsrv.more")
	pass, draw, secret := room[:4], room[4:8], room[8:12]
	public := opq.Public(g, secret)
	r := opq.Enrol(g, "ann", pass, draw, limb.From(9), public)
	client, blind, mine := opq.Hello(g, "ann", pass, draw)
	_, eval, out, seal, _ := opq.Offer(g, r, secret, blind, mine, draw)
	was := string(seal)
	_ = append(seal[:4:4], "more"...)
	proved, _, is := opq.Prove(client, eval, out, public, seal)
	opq.Fake(g, secret, "ann")
	if string(room) != "passdrawsrv.more" || !is || string(seal) != was {
		t.Errorf("changed: %q, %v", room, is)
	}
	clear(seal)
	clear(room)
	clear(client.Pass)
	if string(r.Seal) != was || string(proved.Pass) != "pass" {
		t.Error("memory is shared")
	}
}

// P1, P8: what Make never tells is taken too.
func TestAnyGroup(t *testing.T) {
	for _, p := range []api.Num{{}, {1}, {2}, {3}, {8}, {9}, {15}, top()} {
		for _, q := range []api.Num{{}, {1}, {2}, top()} {
			g := api.Group{P: p, Q: q, G: limb.From(4)}
			opq.Public(g, nil)
			opq.Enrol(g, "n", nil, nil, top(), top())
			s, blind, mine := opq.Hello(g, "n", nil, nil)
			_, eval, out, _, _ := opq.Offer(g, api.Record{V: limb.From(4)}, nil, blind, mine, nil)
			opq.Prove(s, eval, out, limb.From(4), make([]byte, 20))
			opq.Prove(s, limb.From(4), limb.From(2), limb.From(4), make([]byte, 20))
			opq.Fake(g, nil, "")
		}
	}
	opq.Prove(opq.Side{}, api.Num{}, api.Num{}, api.Num{}, nil)
}
