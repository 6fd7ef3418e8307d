package guard_test

import (
	"encoding/hex"
	"math"
	"reflect"
	"strings"
	"testing"

	"sentinel/api"
	"sentinel/guard"
	"sentinel/sponge"
)

func account(tokens, at int) api.Record {
	return api.Record{Proto: api.Srp, Name: "ann", Salt: []byte("salt"), Seal: []byte("seal"), V: api.Num{7}, Key: api.Num{8}, Tokens: tokens, At: at, Revoked: 9}
}

// P901: Tokens
func TestTokens(t *testing.T) {
	for _, c := range []struct{ tokens, at, now, want, wantAt int }{
		{0, 0, 25, 2, 20}, {0, 0, 0, 0, 0}, {0, 0, 9, 0, 0}, {0, 0, 10, 1, 10}, {0, 0, 19, 1, 10}, {0, 0, 20, 2, 20},
		{0, 0, 49, 4, 40}, {0, 0, 50, 5, 50}, {0, 0, 57, 5, 57}, {0, 0, 1000, 5, 1000}, {4, 3, 12, 4, 3}, {4, 3, 13, 5, 13}, {4, 3, 14, 5, 14},
		{5, 3, 4, 5, 4}, {5, 3, 3, 5, 3}, {5, 7, 3, 5, 7}, {2, 100, 99, 2, 100}, {2, 100, 100, 2, 100}, {2, 100, 0, 2, 100}, {3, 7, 26, 4, 17},
		{0, 0, math.MaxInt, 5, math.MaxInt}, {1, math.MaxInt, 5, 1, math.MaxInt}, {4, math.MaxInt - 9, math.MaxInt, 4, math.MaxInt - 9},
	} {
		tokens, at := guard.Tokens(account(c.tokens, c.at), c.now)
		if tokens != c.want || at != c.wantAt {
			t.Errorf("Tokens of %d at %d, by %d: %d, at %d", c.tokens, c.at, c.now, tokens, at)
		}
	}
}

// P901: Charge, Refund: one less, one more, of what there is by now.
func TestChargeRefund(t *testing.T) {
	for tokens := range 6 {
		for at := range 25 {
			for now := range 90 {
				r := account(tokens, at)
				holds, by := guard.Tokens(r, now)
				got, is := guard.Charge(r, now)
				if is != (holds > 0) || is && !reflect.DeepEqual(got, account(holds-1, by)) || !is && !reflect.DeepEqual(got, api.Record{}) {
					t.Fatalf("Charge of %d at %d, by %d: %v, %v", tokens, at, now, got, is)
				}
				if got := guard.Refund(r, now); !reflect.DeepEqual(got, account(min(holds+1, 5), by)) {
					t.Fatalf("Refund of %d at %d, by %d: %v", tokens, at, now, got)
				}
				if !reflect.DeepEqual(r, account(tokens, at)) {
					t.Fatal("what was handed in is changed")
				}
			}
		}
	}
}

// P903 (T3): in any span no more are charged than the bucket holds, what it fills by, and as many as are refunded.
func TestGuesses(t *testing.T) {
	n := uint64(1)
	die := func(k int) int { n = n*6364136223846793005 + 1442695040888963407; return int(n>>33) % k }
	const ticks = 400
	for range 200 {
		r := account(die(6), 0)
		var charged, refunded [ticks]int
		for now := range ticks {
			for range die(4) {
				if got, is := guard.Charge(r, now); is {
					r = got
					charged[now]++
					if die(5) == 0 {
						r = guard.Refund(r, now)
						refunded[now]++
					}
				}
			}
		}
		for from := range ticks {
			sum, back := 0, 0
			for i := from; i < ticks; i++ {
				sum += charged[i]
				back += refunded[i]
				if length := i - from; sum > 5+(length+9)/10+back {
					t.Fatalf("from %d, in %d ticks: %d charged, %d refunded", from, length, sum, back)
				}
			}
		}
	}
}

var known = []struct {
	key   string
	token api.Token
	bytes string
}{
	{"key", api.Token{Name: "ann", Id: 1048576, Channel: 1, End: 100, Era: 1}, "03616e6e00000000001000000000000000000001000000000000006400000000000000015e5f44a437b7dfa5b58396c04d440ea5"},
	{"", api.Token{Name: strings.Repeat("~", 16), Channel: math.MaxInt}, "107e7e7e7e7e7e7e7e7e7e7e7e7e7e7e7e00000000000000007fffffffffffffff000000000000000000000000000000002584346d2e502326f0d7fb3caa94b3db"},
}

// P902: Issue, Read, by bytes that were reckoned apart.
func TestIssueRead(t *testing.T) {
	for _, c := range known {
		b := guard.Issue([]byte(c.key), c.token)
		if hex.EncodeToString(b) != c.bytes {
			t.Errorf("Issue(%v): %x", c.token, b)
		}
		if got, is := guard.Read([]byte(c.key), b); !is || got != c.token {
			t.Errorf("Read(%x): %v, %v", b, got, is)
		}
		if got, is := guard.Read([]byte(c.key+"x"), b); is || got != (api.Token{}) {
			t.Errorf("Read by another key: %v, %v", got, is)
		}
		for i := range b {
			for _, by := range []byte{1, 3, 128} {
				other := append([]byte{}, b...)
				other[i] ^= by
				if got, is := guard.Read([]byte(c.key), other); is || got != (api.Token{}) {
					t.Errorf("Read of byte %d changed: %v", i, got)
				}
			}
			if got, is := guard.Read([]byte(c.key), b[:i]); is || got != (api.Token{}) {
				t.Errorf("Read of %d bytes: %v", i, got)
			}
		}
		if got, is := guard.Read([]byte(c.key), append(b, 0)); is || got != (api.Token{}) {
			t.Errorf("Read of more: %v", got)
		}
	}
}

// signed marks bytes as Issue does.
func signed(key, b string) []byte {
	mark := sponge.Mac([]byte(key), []byte("token"), []byte(b))
	return append([]byte(b), mark[:]...)
}

// P902: what no token may be is not read, rightly marked or not.
func TestReadOthers(t *testing.T) {
	zeros := strings.Repeat("\x00", 32)
	if got, is := guard.Read([]byte("k"), signed("k", "\x01n"+zeros)); !is || got != (api.Token{Name: "n"}) {
		t.Errorf("Read: %v, %v", got, is)
	}
	for _, b := range []string{
		"", "\x00", "\x00" + zeros, "\x01 " + zeros, "\x01\x7f" + zeros, "\x11" + strings.Repeat("n", 17) + zeros, "\x01n" + zeros[1:], "\x01n" + zeros + "\x00",
		"\x01n" + zeros[:8], "\x01n", "\x02n", "\xff" + zeros, "\x01n\x80" + zeros[1:], "\x01n" + zeros[:8] + "\x80" + zeros[9:], "\x01n" + zeros[:16] + "\xff" + zeros[17:], "\x01n" + zeros[:24] + "\x90" + zeros[25:],
	} {
		if got, is := guard.Read([]byte("k"), signed("k", b)); is || got != (api.Token{}) {
			t.Errorf("Read(%q): %v, %v", b, got, is)
		}
	}
	for _, b := range [][]byte{nil, {}, {0}, {1}, {255}, make([]byte, 49), make([]byte, 1000)} {
		if got, is := guard.Read(nil, b); is || got != (api.Token{}) {
			t.Errorf("Read(%x): %v, %v", b, got, is)
		}
	}
}

// P902: Live
func TestLive(t *testing.T) {
	token := api.Token{Name: "ann", Id: 9, Channel: 4, End: 50, Era: 2}
	for i, c := range []struct {
		set               func(*api.Token)
		channel, now, era int
		want              bool
	}{
		{func(t *api.Token) {}, 4, 0, 2, true},
		{func(t *api.Token) {}, 4, 49, 2, true},
		{func(t *api.Token) {}, 4, 50, 2, false},
		{func(t *api.Token) {}, 4, 51, 2, false},
		{func(t *api.Token) {}, 3, 0, 2, false},
		{func(t *api.Token) {}, 5, 0, 2, false},
		{func(t *api.Token) {}, 4, 0, 1, false},
		{func(t *api.Token) {}, 4, 0, 3, false},
		{func(t *api.Token) { t.Name = "anna" }, 4, 0, 2, false},
		{func(t *api.Token) { t.Name = "" }, 4, 0, 2, false},
		{func(t *api.Token) { t.Id = 8 }, 4, 0, 2, false},
		{func(t *api.Token) { t.Id = 10 }, 4, 0, 2, true},
		{func(t *api.Token) { t.End = math.MaxInt }, 4, math.MaxInt - 1, 2, true},
	} {
		u := token
		c.set(&u)
		if got := guard.Live(u, account(0, 0), c.channel, c.now, c.era); got != c.want {
			t.Errorf("case %d: Live: %v", i, got)
		}
	}
}

// P2
func TestOwnMemory(t *testing.T) {
	r := account(3, 0)
	charged, _ := guard.Charge(r, 0)
	refunded := guard.Refund(r, 0)
	clear(r.Salt)
	clear(charged.Seal)
	if string(charged.Salt) != "salt" || string(refunded.Salt) != "salt" || string(refunded.Seal) != "seal" {
		t.Error("memory is shared")
	}
	room := []byte("key and more")
	b := guard.Issue(room[:3], known[0].token)
	guard.Read(room[:3], b[:len(b)-1])
	if string(room) != "key and more" || hex.EncodeToString(b) != known[0].bytes {
		t.Error("what was handed in is changed")
	}
}

// P1, P8
func TestAny(t *testing.T) {
	for _, n := range []int{math.MinInt, -1, 300, math.MaxInt} {
		for _, at := range []int{math.MinInt, -1, math.MaxInt} {
			for _, now := range []int{math.MinInt, -1, math.MaxInt} {
				guard.Tokens(account(n, at), now)
				guard.Charge(account(n, at), now)
				guard.Refund(account(n, at), now)
			}
		}
		guard.Issue(nil, api.Token{Name: strings.Repeat("x", 300), Id: n})
	}
}
