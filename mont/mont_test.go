package mont_test

import (
	"math/big"
	"testing"

	"sentinel/api"
	"sentinel/limb"
	"sentinel/mont"
)

type die uint64

func (d *die) word() uint32 {
	*d = *d*6364136223846793005 + 1442695040888963407
	return uint32(*d >> 32)
}

// num is of any length, and often near the ends of its limbs.
func (d *die) num() api.Num {
	var a api.Num
	for i := range 1 + d.word()%8 {
		switch d.word() % 4 {
		case 0:
			a[i] = 1<<32 - 1
		case 1:
			a[i] = d.word() % 3
		default:
			a[i] = d.word()
		}
	}
	return a
}

func (d *die) odd() api.Num {
	for {
		if m := d.num(); m[0]%2 == 1 && m != (api.Num{1}) {
			return m
		}
	}
}

func (d *die) below(m api.Num) api.Num {
	a, _ := limb.Rest(d.num(), d.num(), m)
	return a
}

func wide(a api.Num) *big.Int { return new(big.Int).SetBytes(limb.Bytes(a)) }

func two(n uint) *big.Int { return new(big.Int).Lsh(big.NewInt(1), n) }

func same(t *testing.T, what string, got api.Num, want *big.Int) {
	t.Helper()
	if wide(got).Cmp(want) != 0 {
		t.Fatalf("%s: %v, not %v", what, wide(got), want)
	}
}

// top is 2^256 - less.
func top(less uint32) api.Num {
	a, _ := limb.Sub(api.Num{}, api.Num{less})
	return a
}

// P201: Make
func TestMake(t *testing.T) {
	for _, m := range []api.Num{{}, {1}, {2}, {4078}, {0, 1}, {0, 1, 1}, top(2)} {
		if c, is := mont.Make(m); is || c != (api.Mont{}) {
			t.Errorf("Make(%v): %v, %v", m, c, is)
		}
	}
	d := die(1)
	for i := range 2000 {
		m := d.odd()
		if i < 200 {
			m = api.Num{uint32(2*i + 3)}
		}
		if i == 200 {
			m = top(1)
		}
		c, is := mont.Make(m)
		if !is || c.M != m {
			t.Fatalf("Make(%v): %v, %v", m, c, is)
		}
		same(t, "R", c.R, two(256).Mod(two(256), wide(m)))
		same(t, "Two", c.Two, two(512).Mod(two(512), wide(m)))
		if c.Neg*m[0] != 1<<32-1 {
			t.Fatalf("Neg of %v: %d", m, c.Neg)
		}
	}
}

// P201: In, Out, Mul
func TestInOutMul(t *testing.T) {
	d := die(2)
	for i := range 5000 {
		m := d.odd()
		switch i % 5 {
		case 0:
			m = top(1 + 2*d.word()%16)
		case 1:
			m = api.Num{3 + 2*(d.word()%9)}
		}
		c, _ := mont.Make(m)
		x := d.num()
		if i%7 == 0 {
			x = top(1 + d.word()%3)
		}
		in := mont.In(c, x)
		want := new(big.Int).Mul(wide(x), two(256))
		same(t, "In", in, want.Mod(want, wide(m)))
		a, b := d.below(m), d.below(m)
		if i%3 == 0 {
			a, _ = limb.Sub(m, api.Num{1})
			b = a
		}
		if got := mont.Out(c, mont.In(c, a)); got != a {
			t.Fatalf("Out of In of %v by %v: %v", a, m, got)
		}
		if got := mont.In(c, mont.Out(c, a)); got != a || limb.Cmp(mont.Out(c, a), m) >= 0 {
			t.Fatalf("In of Out of %v by %v: %v", a, m, got)
		}
		product := new(big.Int).Mul(wide(a), wide(b))
		back := new(big.Int).ModInverse(two(256), wide(m))
		product.Mul(product, back)
		same(t, "Mul", mont.Mul(c, a, b), product.Mod(product, wide(m)))
	}
}

// P201: Pow
func TestPow(t *testing.T) {
	c, _ := mont.Make(api.Num{7})
	for e, want := range []uint32{1, 3, 2, 6, 4, 5, 1, 3} {
		if got := mont.Pow(c, api.Num{3}, limb.From(e)); got != (api.Num{want}) {
			t.Errorf("Pow of 3 to %d by 7: %v", e, got)
		}
	}
	if got := mont.Pow(c, api.Num{}, api.Num{}); got != (api.Num{1}) {
		t.Errorf("Pow of 0 to 0: %v", got)
	}
	d := die(3)
	for range 300 {
		m, a, e := d.odd(), d.num(), d.num()
		c, _ := mont.Make(m)
		same(t, "Pow", mont.Pow(c, a, e), new(big.Int).Exp(wide(a), wide(e), wide(m)))
	}
}

// P201: Inverse
func TestInverse(t *testing.T) {
	for m := range 130 {
		for a := range 300 {
			got, is := mont.Inverse(limb.From(a), limb.From(m))
			want := new(big.Int)
			there := m > 1 && want.ModInverse(big.NewInt(int64(a)), big.NewInt(int64(m))) != nil
			if is != there || !there && got != (api.Num{}) || there && wide(got).Cmp(want) != 0 {
				t.Fatalf("Inverse of %d by %d: %v, %v", a, m, got, is)
			}
		}
	}
	d := die(4)
	for range 3000 {
		a, m := d.num(), d.num()
		if wide(m).Cmp(big.NewInt(1)) <= 0 {
			continue
		}
		got, is := mont.Inverse(a, m)
		want := new(big.Int).ModInverse(wide(a), wide(m))
		if is != (want != nil) || !is && got != (api.Num{}) {
			t.Fatalf("Inverse of %v by %v: %v", a, m, is)
		}
		if is {
			same(t, "Inverse", got, want)
		}
	}
	for _, a := range []api.Num{{}, {1}, {2}, top(1)} {
		for _, m := range []api.Num{{}, {1}} {
			if got, is := mont.Inverse(a, m); is || got != (api.Num{}) {
				t.Errorf("Inverse of %v by %v: %v, %v", a, m, got, is)
			}
		}
	}
	if got, is := mont.Inverse(top(1), top(2)); !is || got != (api.Num{1}) {
		t.Errorf("Inverse near 2^256: %v, %v", got, is)
	}
}

// P1, P8: what Make never tells is taken too.
func TestAnyMont(t *testing.T) {
	d := die(5)
	for range 200 {
		c := api.Mont{M: d.num(), R: d.num(), Two: d.num(), Neg: d.word()}
		mont.In(c, d.num())
		mont.Out(c, d.num())
		mont.Mul(c, d.num(), d.num())
		mont.Pow(c, d.num(), d.num())
	}
	mont.Pow(api.Mont{}, api.Num{5}, top(1))
}
