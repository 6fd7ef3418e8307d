package limb_test

import (
	"bytes"
	"math"
	"math/big"
	"testing"

	"sentinel/api"
	"sentinel/limb"
)

// die throws numbers that lie near the ends of limbs as often as anywhere.
type die uint64

func (d *die) word() uint32 {
	*d = *d*6364136223846793005 + 1442695040888963407
	return uint32(*d >> 32)
}

func (d *die) num() api.Num {
	var a api.Num
	for i := range a {
		switch d.word() % 5 {
		case 0:
			a[i] = 1<<32 - 1
		case 1:
			a[i] = 1 << 31
		case 2:
			a[i] = d.word() % 3
		case 3:
			a[i] = d.word()
		}
	}
	for i := 7 - int(d.word()%9); i < 7 && i >= -1; i++ {
		a[i+1] = 0
	}
	return a
}

func wide(a api.Num) *big.Int { return new(big.Int).SetBytes(limb.Bytes(a)) }

var whole = new(big.Int).Lsh(big.NewInt(1), 256)

func all() api.Num {
	var a api.Num
	for i := range a {
		a[i] = 1<<32 - 1
	}
	return a
}

// P101: From
func TestFrom(t *testing.T) {
	for _, c := range []struct {
		n    int
		want api.Num
	}{
		{0, api.Num{}}, {1, api.Num{1}}, {-1, api.Num{}}, {math.MinInt, api.Num{}},
		{1<<32 - 1, api.Num{1<<32 - 1}}, {1 << 32, api.Num{0, 1}}, {0x0123456789abcdef, api.Num{0x89abcdef, 0x01234567}},
		{math.MaxInt, api.Num{1<<32 - 1, 1<<31 - 1}},
	} {
		if got := limb.From(c.n); got != c.want {
			t.Errorf("From(%d): %v", c.n, got)
		}
	}
}

// P101: Bytes, Read
func TestBytes(t *testing.T) {
	a := api.Num{0x1c1d1e1f, 0x18191a1b, 0x14151617, 0x10111213, 0x0c0d0e0f, 0x08090a0b, 0x04050607, 0x00010203}
	want := make([]byte, 32)
	for i := range want {
		want[i] = byte(i)
	}
	if got := limb.Bytes(a); !bytes.Equal(got, want) {
		t.Errorf("Bytes: %x", got)
	}
	if got, is := limb.Read(want); got != a || !is {
		t.Errorf("Read: %v, %v", got, is)
	}
	for n := range 33 {
		b := make([]byte, n, n+8)
		for i := range b {
			b[i] = byte(200 + i)
		}
		got, is := limb.Read(b)
		if wide(got).Cmp(new(big.Int).SetBytes(b)) != 0 || !is {
			t.Errorf("Read of %d bytes: %v, %v", n, got, is)
		}
		if len(b) > 0 && b[0] != 200 {
			t.Error("Read changed what it was handed")
		}
	}
	for _, n := range []int{33, 34, 64} {
		if got, is := limb.Read(make([]byte, n)); got != (api.Num{}) || is {
			t.Errorf("Read of %d bytes: %v, %v", n, got, is)
		}
	}
}

// P101: Cmp
func TestCmp(t *testing.T) {
	d := die(1)
	for range 5000 {
		a, b := d.num(), d.num()
		if got, want := limb.Cmp(a, b), wide(a).Cmp(wide(b)); got != want {
			t.Fatalf("Cmp(%v, %v): %d", a, b, got)
		}
		b = a
		if limb.Cmp(a, b) != 0 {
			t.Fatalf("Cmp(%v, %v): not 0", a, b)
		}
		b[d.word()%8] ^= 1
		if got, want := limb.Cmp(a, b), wide(a).Cmp(wide(b)); got != want {
			t.Fatalf("Cmp(%v, %v): %d", a, b, got)
		}
	}
}

// P101, P102: Add, Sub
func TestAddSub(t *testing.T) {
	if sum, carry := limb.Add(all(), api.Num{1}); sum != (api.Num{}) || carry != 1 {
		t.Errorf("Add: %v, %d", sum, carry)
	}
	if less, lent := limb.Sub(api.Num{}, api.Num{1}); less != all() || lent != 1 {
		t.Errorf("Sub: %v, %d", less, lent)
	}
	d := die(2)
	for range 5000 {
		a, b := d.num(), d.num()
		sum, carry := limb.Add(a, b)
		want := new(big.Int).Add(wide(a), wide(b))
		beyond := want.Cmp(whole) >= 0
		if wide(sum).Cmp(want.Mod(want, whole)) != 0 || (carry == 1) != beyond || carry > 1 {
			t.Fatalf("Add(%v, %v): %v, %d", a, b, sum, carry)
		}
		if back, lent := limb.Sub(sum, b); back != a || lent != carry {
			t.Fatalf("Sub undoes not Add(%v, %v)", a, b)
		}
		less, lent := limb.Sub(a, b)
		want.Sub(wide(a), wide(b))
		below := want.Sign() < 0
		if wide(less).Cmp(want.Mod(want, whole)) != 0 || (lent == 1) != below || lent > 1 {
			t.Fatalf("Sub(%v, %v): %v, %d", a, b, less, lent)
		}
		if back, carry := limb.Add(less, b); back != a || carry != lent {
			t.Fatalf("Add undoes not Sub(%v, %v)", a, b)
		}
	}
}

// P101: Mul
func TestMul(t *testing.T) {
	top := all()
	top[0]--
	if lo, hi := limb.Mul(all(), all()); lo != (api.Num{1}) || hi != top {
		t.Errorf("Mul: %v, %v", lo, hi)
	}
	d := die(3)
	for range 5000 {
		a, b := d.num(), d.num()
		lo, hi := limb.Mul(a, b)
		got := new(big.Int).Add(new(big.Int).Mul(wide(hi), whole), wide(lo))
		if got.Cmp(new(big.Int).Mul(wide(a), wide(b))) != 0 {
			t.Fatalf("Mul(%v, %v): %v, %v", a, b, lo, hi)
		}
	}
}

// P101, P102: Rest
func TestRest(t *testing.T) {
	if got, is := limb.Rest(all(), all(), api.Num{}); got != (api.Num{}) || is {
		t.Errorf("Rest by 0: %v, %v", got, is)
	}
	d := die(4)
	for range 40000 {
		lo, hi, m := d.num(), d.num(), d.num()
		if m == (api.Num{}) {
			continue
		}
		want := new(big.Int).Add(new(big.Int).Mul(wide(hi), whole), wide(lo))
		want.Mod(want, wide(m))
		if got, is := limb.Rest(lo, hi, m); wide(got).Cmp(want) != 0 || !is {
			t.Fatalf("Rest(%v, %v, %v): %v, %v", lo, hi, m, got, is)
		}
	}
	for _, m := range []api.Num{{1}, {7}, {1<<32 - 1}, {0, 1}, all(), {7: 1 << 31}} {
		if got, is := limb.Rest(m, api.Num{}, m); got != (api.Num{}) || !is {
			t.Errorf("Rest of %v by itself: %v, %v", m, got, is)
		}
	}
}

// P101: Pick, Bits
func TestPickBits(t *testing.T) {
	a, b := api.Num{1, 2, 3, 4, 5, 6, 7, 8}, all()
	for _, yes := range []uint32{1, 2, 3, 1 << 16, 1 << 31, 1<<32 - 1} {
		if limb.Pick(yes, a, b) != a || limb.Pick(yes, b, a) != b {
			t.Errorf("Pick(%d)", yes)
		}
	}
	if limb.Pick(0, a, b) != b || limb.Pick(0, b, a) != a {
		t.Error("Pick(0)")
	}
	if limb.Bits(api.Num{}) != 0 || limb.Bits(api.Num{8}) != 4 || limb.Bits(all()) != 256 {
		t.Error("Bits")
	}
	for k := range 256 {
		var n api.Num
		n[k/32] = 1 << (k % 32)
		if got := limb.Bits(n); got != k+1 {
			t.Errorf("Bits of 2^%d: %d", k, got)
		}
		n, _ = limb.Sub(n, api.Num{1})
		if got := limb.Bits(n); got != k {
			t.Errorf("Bits of 2^%d less 1: %d", k, got)
		}
	}
}

// P2: each answer is memory of its own.
func TestOwnMemory(t *testing.T) {
	a := limb.Bytes(api.Num{5})
	b := limb.Bytes(api.Num{5})
	for i := range a {
		a[i] = 9
	}
	if b[31] != 5 || limb.Bytes(api.Num{5})[31] != 5 {
		t.Error("Bytes shares memory")
	}
}
