package srp_test

import (
	"encoding/hex"
	"reflect"
	"strings"
	"testing"

	"sentinel/api"
	"sentinel/group"
	"sentinel/limb"
	"sentinel/sponge"
	"sentinel/srp"
)

func must(t *testing.T, bits int) api.Group {
	t.Helper()
	g, is := group.Make(bits)
	if !is {
		t.Fatalf("Make(%d): false", bits)
	}
	return g
}

func sum(s string) (out api.Sum) {
	b, _ := hex.DecodeString(s)
	copy(out[:], b)
	return out
}

func exponent(g api.Group, text string) api.Num {
	s := sponge.Of([]byte(text))
	return group.Exponent(g, s[:])
}

// known are whole logins that were reckoned apart.
var known = []struct {
	bits                           int
	name, pass, salt, drawA, drawB string
	v, ownA, a, ownB, b            int
	key, first, second             string
}{
	{12, "ann", "secret", "salt", "d1", "d2", 221, 24, 1941, 1894, 1481,
		"4fbbfb0789e9ea4ea36b673abd6f448b", "c5b3d050def24ba6547d2f7aa68497da", "e275b1a9b4a2f5d747057cb26f14fa18"},
	{16, "user0", "", "", "", "", 16297, 3647, 26032, 32207, 8983,
		"98419b946440cb6a9b4831233c145da8", "e9725cb6c50d09ca1afe2d5a86725c70", "46cc3e4f8f55cd091ceca322a77eb00f"},
	{31, "bob!", "pass word", "0123456789abcdef", "x", "y", 1250948647, 87286402, 587191700, 653193514, 616864763,
		"b9016416788e6cf82d7d4cbb1ab92854", "a4861e64c97b22ae8a210fdd128eb4d8", "e780431750ad6546cef7f9f242995b1d"},
	{24, strings.Repeat("n", 16), strings.Repeat("p", 64), "s", "same", "same", 12028590, 2651909, 5957132, 8063082, 8941008,
		"2a215e03776b74111ce9e5a34b8e8d6f", "d0598424b0cbc39c17beae584dce9306", "0dc9f9b18da1fbb682006b2426d680e0"},
}

// P701, P702: every number, every field.
func TestKnown(t *testing.T) {
	for _, c := range known {
		g := must(t, c.bits)
		pass, salt := []byte(c.pass), []byte(c.salt)
		v := srp.Verifier(g, c.name, pass, salt)
		if v != limb.From(c.v) {
			t.Errorf("%s: Verifier: %v", c.name, v)
		}
		client, a := srp.Hello(g, c.name, pass, []byte(c.drawA))
		wanted := srp.Side{G: g, Name: c.name, Pass: client.Pass, A: limb.From(c.a), Own: limb.From(c.ownA)}
		if a != limb.From(c.a) || !reflect.DeepEqual(client, wanted) || string(client.Pass) != c.pass {
			t.Errorf("%s: Hello: %v, %v", c.name, client, a)
		}
		r := api.Record{Proto: api.Srp, Name: c.name, Salt: salt, V: v, Key: api.Num{9}, Seal: []byte("x"), Tokens: 1, At: 2, Revoked: 3}
		server, b, is := srp.Offer(g, r, a, []byte(c.drawB))
		wanted = srp.Side{G: g, Name: c.name, A: a, B: limb.From(c.b), Own: limb.From(c.ownB), Salt: server.Salt, V: v, Key: sum(c.key), Proof: sum(c.first)}
		if !is || b != limb.From(c.b) || !reflect.DeepEqual(server, wanted) || string(server.Salt) != c.salt {
			t.Errorf("%s: Offer: %v, %v, %v", c.name, server, b, is)
		}
		proved, first, is := srp.Prove(client, salt, b)
		wanted = srp.Side{G: g, Name: c.name, Pass: proved.Pass, A: a, B: b, Own: client.Own, Salt: proved.Salt, Key: sum(c.key), Proof: sum(c.first)}
		if !is || first != sum(c.first) || !reflect.DeepEqual(proved, wanted) || string(proved.Salt) != c.salt || string(proved.Pass) != c.pass {
			t.Errorf("%s: Prove: %v, %x, %v", c.name, proved, first, is)
		}
		second, is := srp.Check(server, first[:])
		if !is || second != sum(c.second) {
			t.Errorf("%s: Check: %x, %v", c.name, second, is)
		}
		if !srp.Done(proved, second[:]) {
			t.Errorf("%s: Done: false", c.name)
		}
	}
}

// login is a whole one; it tells whether both came to one key, and each confirmed the other.
func login(t *testing.T, g api.Group, pass, other string, draw byte) (offered, proved, confirmed bool) {
	salt := []byte{draw, 'a'}
	v := srp.Verifier(g, "ann", []byte(pass), salt)
	client, a := srp.Hello(g, "ann", []byte(other), []byte{draw})
	server, b, offered := srp.Offer(g, api.Record{Name: "ann", Salt: salt, V: v}, a, []byte{draw, 1})
	if !offered {
		if !reflect.DeepEqual(server, srp.Side{}) || b != (api.Num{}) {
			t.Fatalf("Offer: false beside %v, %v", server, b)
		}
		return false, false, false
	}
	client, first, proved := srp.Prove(client, salt, b)
	if !proved {
		if !reflect.DeepEqual(client, srp.Side{}) || first != (api.Sum{}) {
			t.Fatalf("Prove: false beside %v, %v", client, first)
		}
		return true, false, false
	}
	second, checked := srp.Check(server, first[:])
	if checked != (client.Key == server.Key) {
		t.Fatalf("Check: %v", checked)
	}
	return true, true, checked && srp.Done(client, second[:])
}

// P703 (T1, T2): by the password, and by no other.
func TestBothComeToOneKey(t *testing.T) {
	for _, bits := range []int{12, 13, 14, 16, 17, 21, 31} {
		g := must(t, bits)
		refused := 0
		for draw := range 120 {
			offered, _, confirmed := login(t, g, "secret", "secret", byte(draw))
			if offered && !confirmed {
				t.Fatalf("%d bits, draw %d: not confirmed", bits, draw)
			}
			_, proved, confirmed := login(t, g, "secret", "Secret", byte(draw))
			if !proved {
				refused++
			}
			if confirmed && bits > 16 {
				t.Fatalf("%d bits, draw %d: another password is confirmed", bits, draw)
			}
		}
		if refused == 0 {
			t.Errorf("%d bits: no base that the group has not", bits)
		}
	}
}

// P701: what Offer refuses, B of 0 too (a draw that was sought for it).
func TestOfferFalse(t *testing.T) {
	g := must(t, 14)
	v := srp.Verifier(g, "ann", []byte("secret"), []byte("salt"))
	_, a := srp.Hello(g, "ann", []byte("secret"), []byte("d"))
	top, _ := limb.Sub(api.Num{}, limb.From(1))
	for i, c := range []struct {
		v, a api.Num
		draw string
		want bool
	}{
		{v, a, "5878", true}, {v, a, "5879", false}, {v, api.Num{}, "d", false}, {v, limb.From(1), "d", false}, {v, g.P, "d", false},
		{v, limb.From(5), "d", group.Has(g, limb.From(5))}, {v, limb.From(16222), "d", false}, {v, top, "d", false},
		{api.Num{}, a, "d", false}, {limb.From(1), a, "d", false}, {g.P, a, "d", false}, {limb.From(16222), a, "d", false}, {top, a, "d", false},
		{v, limb.From(4), "d", true}, {limb.From(4), limb.From(4), "d", true},
	} {
		s, b, is := srp.Offer(g, api.Record{Name: "ann", V: c.v}, c.a, []byte(c.draw))
		if is != c.want || !is && (!reflect.DeepEqual(s, srp.Side{}) || b != (api.Num{})) {
			t.Errorf("case %d: Offer: %v, %v, %v", i, s, b, is)
		}
	}
}

// P702: what Prove refuses.
func TestProveFalse(t *testing.T) {
	g := must(t, 14)
	client, _ := srp.Hello(g, "ann", []byte("secret"), []byte("d"))
	top, _ := limb.Sub(api.Num{}, limb.From(1))
	over, _ := limb.Add(g.P, limb.From(700))
	for _, b := range []api.Num{{}, g.P, over, top} {
		if s, proof, is := srp.Prove(client, []byte("salt"), b); is || proof != (api.Sum{}) || !reflect.DeepEqual(s, srp.Side{}) {
			t.Errorf("Prove by %v: %v", b, is)
		}
	}
	// the server's covered number alone, and with 1, leave 0 and 1
	k := exponent(g, "k")
	covered := group.Times(g, k, srp.Verifier(g, "ann", []byte("secret"), []byte("salt")))
	for n := range 40 {
		b, _ := limb.Add(covered, limb.From(n))
		b, _ = limb.Rest(b, api.Num{}, g.P)
		_, _, is := srp.Prove(client, []byte("salt"), b)
		if want := b != (api.Num{}) && group.Has(g, limb.From(n)); is != want {
			t.Errorf("Prove by a base of %d: %v", n, is)
		}
	}
}

// P702: Check, Done
func TestCheckDone(t *testing.T) {
	s := srp.Side{Key: sum(known[0].key), Proof: sum(known[0].first)}
	right, second := sum(known[0].first), sum(known[0].second)
	if got, is := srp.Check(s, right[:]); !is || got != second || !srp.Done(s, second[:]) {
		t.Error("the right ones")
	}
	for i := range 16 {
		for _, of := range []api.Sum{right, second} {
			of[i] ^= 1
			if got, is := srp.Check(s, of[:]); is || got != (api.Sum{}) {
				t.Errorf("Check of byte %d changed: %x", i, got)
			}
			if srp.Done(s, of[:]) {
				t.Errorf("Done of byte %d changed", i)
			}
		}
	}
	for _, b := range [][]byte{nil, {}, right[:15], append(right[:], 0), second[:15], append(second[:], 0)} {
		if got, is := srp.Check(s, b); is || got != (api.Sum{}) {
			t.Errorf("Check(%x)", b)
		}
		if srp.Done(s, b) {
			t.Errorf("Done(%x)", b)
		}
	}
	if _, is := srp.Check(s, second[:]); is || srp.Done(s, right[:]) {
		t.Error("the other side's proof")
	}
}

// P2
func TestHandedIn(t *testing.T) {
	g := must(t, 16)
	room := []byte("passsaltdrawmore")
	pass, salt, draw := room[:4], room[4:8], room[8:12]
	v := srp.Verifier(g, "ann", pass, salt)
	client, a := srp.Hello(g, "ann", pass, draw)
	server, b, _ := srp.Offer(g, api.Record{Name: "ann", Salt: salt, V: v}, a, draw)
	proved, first, is := srp.Prove(client, salt, b)
	if !is || string(room) != "passsaltdrawmore" {
		t.Errorf("changed: %q, %v", room, is)
	}
	clear(room)
	if string(client.Pass) != "pass" || string(server.Salt) != "salt" || string(proved.Salt) != "salt" {
		t.Error("what is handed in is kept")
	}
	clear(client.Pass)
	if string(proved.Pass) != "pass" {
		t.Error("an answer shares memory with what was handed in")
	}
	if _, is := srp.Check(server, first[:]); !is {
		t.Error("Check: false")
	}
}

// P1, P8: what Make never tells is taken too.
func TestAnyGroup(t *testing.T) {
	top, _ := limb.Sub(api.Num{}, limb.From(1))
	for _, p := range []api.Num{{}, {1}, {2}, {3}, {8}, {9}, {15}, top} {
		for _, q := range []api.Num{{}, {1}, {2}, top} {
			g := api.Group{P: p, Q: q, G: limb.From(4)}
			srp.Verifier(g, "n", nil, nil)
			s, a := srp.Hello(g, "n", nil, nil)
			o, _, _ := srp.Offer(g, api.Record{V: limb.From(4)}, a, nil)
			srp.Prove(s, nil, limb.From(4))
			srp.Prove(o, nil, limb.From(2))
		}
	}
	srp.Prove(srp.Side{}, nil, limb.From(1))
	srp.Check(srp.Side{}, nil)
}
