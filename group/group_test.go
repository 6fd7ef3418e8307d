package group_test

import (
	"math"
	"math/big"
	"testing"

	"sentinel/api"
	"sentinel/group"
	"sentinel/limb"
)

// primes are the greatest safe primes of 12 to 31 bits, reckoned apart.
var primes = []int{4079, 8147, 16223, 32603, 65267, 130787, 262127, 524243, 1048343, 2097143, 4194287, 8388287,
	16776899, 33553799, 67108187, 134217323, 268435019, 536870723, 1073740439, 2147483579}

func must(t *testing.T, bits int) api.Group {
	t.Helper()
	g, is := group.Make(bits)
	if !is {
		t.Fatalf("Make(%d): false", bits)
	}
	return g
}

func low(a api.Num) int { return int(a[0]) | int(a[1])<<32 }

// top is 2^256 - 1.
func top() api.Num {
	a, _ := limb.Sub(api.Num{}, limb.From(1))
	return a
}

// P401: Prime
func TestPrime(t *testing.T) {
	for n := -3; n < 20000; n++ {
		if got, want := group.Prime(n), n > 1 && big.NewInt(int64(n)).ProbablyPrime(0); got != want {
			t.Fatalf("Prime(%d): %v", n, got)
		}
	}
	for n, want := range map[int]bool{
		1<<31 - 1: true, 1<<31 - 2: false, 46337 * 46337: false, 46337 * 46327: false, 2147483629: true,
		1 << 31: false, 1<<31 + 11: false, 4294967291: false, 2305843009213693951: false, math.MaxInt: false, math.MinInt: false,
	} {
		if got := group.Prime(n); got != want {
			t.Errorf("Prime(%d): %v", n, got)
		}
	}
}

// P401: Make
func TestMake(t *testing.T) {
	for i, p := range primes {
		want := api.Group{Bits: 12 + i, P: limb.From(p), Q: limb.From(p / 2), G: limb.From(4)}
		if got, is := group.Make(12 + i); got != want || !is {
			t.Errorf("Make(%d): %v, %v", 12+i, got, is)
		}
	}
	for _, bits := range []int{11, 32, 0, -1, 64, 300, math.MaxInt, math.MinInt} {
		if got, is := group.Make(bits); is || got != (api.Group{}) {
			t.Errorf("Make(%d): %v, %v", bits, got, is)
		}
	}
}

// P401: Has
func TestHas(t *testing.T) {
	g := must(t, 12)
	squares := map[int]bool{}
	for n := 2; n < 4078; n++ {
		squares[n*n%4079] = true
	}
	for a := range 3 * 4079 {
		if got, want := group.Has(g, limb.From(a)), a > 1 && a < 4079 && squares[a]; got != want {
			t.Fatalf("Has(%d): %v", a, got)
		}
	}
	for _, a := range []api.Num{top(), {4, 1}, {7: 4}} {
		if group.Has(g, a) {
			t.Errorf("Has(%v): true", a)
		}
	}
}

// P401: Raise, Times
func TestRaiseTimes(t *testing.T) {
	n := uint64(1)
	next := func() int { n = n*6364136223846793005 + 1442695040888963407; return int(n >> 20) }
	for i, p := range primes {
		g := must(t, 12+i)
		mod := big.NewInt(int64(p))
		for range 30 {
			a, b := next(), next()
			x, y := big.NewInt(int64(a)), big.NewInt(int64(b))
			if got := group.Raise(g, limb.From(a), limb.From(b)); int64(low(got)) != new(big.Int).Exp(x, y, mod).Int64() {
				t.Fatalf("Raise(%d, %d) by %d: %v", a, b, p, got)
			}
			if got := group.Times(g, limb.From(a), limb.From(b)); int64(low(got)) != new(big.Int).Mod(x.Mul(x, y), mod).Int64() {
				t.Fatalf("Times(%d, %d) by %d: %v", a, b, p, got)
			}
		}
	}
	g := must(t, 12)
	if got := group.Raise(g, api.Num{}, api.Num{}); low(got) != 1 {
		t.Errorf("Raise(0, 0): %v", got)
	}
	// by 4079: 2^256 - 1 is left
	all := new(big.Int).Sub(new(big.Int).Lsh(big.NewInt(1), 256), big.NewInt(1))
	want := new(big.Int).Mod(new(big.Int).Mul(all, all), big.NewInt(4079)).Int64()
	if got := group.Times(g, top(), top()); int64(low(got)) != want {
		t.Errorf("Times at the top: %v", got)
	}
	if got := group.Raise(g, top(), top()); int64(low(got)) != new(big.Int).Exp(all, all, big.NewInt(4079)).Int64() {
		t.Errorf("Raise at the top: %v", got)
	}
}

// P402: Exponent, Into, by numbers that were reckoned apart.
func TestExponentInto(t *testing.T) {
	texts := []string{"", "a", "exponent", "secret"}
	for bits, want := range map[int][]int{12: {1006, 1030, 224}, 16: {14782, 18842, 26616}, 31: {715089030, 495519998, 617162844}} {
		for i, n := range want {
			if got := group.Exponent(must(t, bits), []byte(texts[i])); got != limb.From(n) {
				t.Errorf("Exponent of %q of %d bits: %v", texts[i], bits, got)
			}
		}
	}
	for bits, want := range map[int][]int{12: {1265, 2645, -1, 1693}, 16: {51680, 23530, -1, 52713}, 31: {295722171, 1973638457, -1, 154071616}} {
		for i, n := range want {
			if got := group.Into(must(t, bits), []byte(texts[i])); n >= 0 && got != limb.From(n) {
				t.Errorf("Into of %q of %d bits: %v", texts[i], bits, got)
			}
		}
	}
	// of these the first square is 0, or 1; of the last one the least that it may be
	g := must(t, 12)
	for text, n := range map[string]int{"2075": 4017, "2925": 2113, "3290": 3952, "3544": 1518, "4012": 1120, "2389": 2} {
		if got := group.Into(g, []byte(text)); got != limb.From(n) {
			t.Errorf("Into of %q: %v", text, got)
		}
	}
}

// P402: an exponent is 1 to Q - 1, both of them told of some text.
func TestExponentEnds(t *testing.T) {
	g := must(t, 12)
	seen := map[int]bool{}
	for i := range 40000 {
		e := low(group.Exponent(g, []byte{byte(i), byte(i >> 8)}))
		if e < 1 || e > 2038 {
			t.Fatalf("Exponent of %d: %d", i, e)
		}
		seen[e] = true
	}
	if !seen[1] || !seen[2038] {
		t.Error("an end is never told")
	}
}

// P402, P403: Unblind
func TestUnblind(t *testing.T) {
	for _, bits := range []int{12, 17, 31} {
		g := must(t, bits)
		for i := range 200 {
			text := []byte{byte(i)}
			a := group.Into(g, text)
			if !group.Has(g, a) {
				t.Fatalf("Has not what Into tells of %d", i)
			}
			r, k := group.Exponent(g, text), group.Exponent(g, []byte{byte(i), 1})
			blinded := group.Raise(g, group.Raise(g, a, r), k)
			if got, is := group.Unblind(g, blinded, r); got != group.Raise(g, a, k) || !is {
				t.Fatalf("Unblind of %d: %v, %v", i, got, is)
			}
		}
		for _, r := range []api.Num{{}, g.Q} {
			if got, is := group.Unblind(g, limb.From(16), r); is || got != (api.Num{}) {
				t.Errorf("Unblind by %v: %v, %v", r, got, is)
			}
		}
		if got, is := group.Unblind(g, limb.From(16), top()); !is || group.Raise(g, got, top()) != limb.From(16) {
			t.Errorf("Unblind at the top: %v, %v", got, is)
		}
	}
}

// P1, P8: what Make never tells is taken too.
func TestAnyGroup(t *testing.T) {
	for p := range 12 {
		for q := range 5 {
			g := api.Group{P: limb.From(p), Q: limb.From(q), G: limb.From(4)}
			group.Has(g, limb.From(3))
			group.Raise(g, limb.From(3), top())
			group.Times(g, top(), top())
			group.Exponent(g, []byte("a"))
			group.Into(g, []byte("a"))
			group.Unblind(g, limb.From(3), limb.From(3))
		}
	}
}

// P2
func TestHandedIn(t *testing.T) {
	g := must(t, 12)
	room := []byte("0123456789abcdef")
	group.Exponent(g, room[:3])
	group.Into(g, room[:3])
	if string(room) != "0123456789abcdef" {
		t.Errorf("changed: %q", room)
	}
}
