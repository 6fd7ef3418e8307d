package vault_test

import (
	"encoding/hex"
	"math"
	"reflect"
	"slices"
	"strconv"
	"testing"

	"sentinel/api"
	"sentinel/vault"
)

// Cells' bytes that were reckoned apart.
const (
	era1   = "0000000000000001080000000000000001fbd80a4953b8fba26a8c9ab48462dcd0"
	era2   = "0000000000000002080000000000000002265572e9b15a57602d7e415752fb226f"
	first  = "0000000000000001240103616e6e0473616c740000000007000000000500000000000000030000000000000000641e8c90ae2a919faba0d9f80b1d2f9f"
	second = "0000000000000002009a5eadd8ba3c8e275646a23328cf8c02"
)

func ann() api.Record {
	return api.Record{Proto: api.Srp, Name: "ann", Salt: []byte("salt"), V: api.Num{7}, Tokens: 5, At: 3}
}

func account(i, at int) api.Record {
	return api.Record{Proto: api.Opq, Name: "acc" + strconv.Itoa(i), Seal: []byte("seal"), V: api.Num{uint32(i)}, At: at}
}

func plain(r api.Record) api.Record {
	r.Salt, r.Seal = append([]byte{}, r.Salt...), append([]byte{}, r.Seal...)
	return r
}

func same(a, b api.Record) bool { return reflect.DeepEqual(plain(a), plain(b)) }

// all is what the vault tells of its accounts.
func all(v *vault.Vault) map[string]api.Record {
	m := map[string]api.Record{}
	for _, name := range v.Names() {
		r, _ := v.Get(name)
		m[name] = plain(r)
	}
	return m
}

func safe(v *vault.Vault, place int) string { return hex.EncodeToString(v.Cells()[place].Safe) }

func want(t *testing.T, what string, got, want api.Errno) {
	t.Helper()
	if got != want {
		t.Errorf("%s: %v, not %v", what, got, want)
	}
}

// P601: New, and the bytes of cells
func TestNew(t *testing.T) {
	v := vault.New()
	if v.Boot() != 1 || v.Dead() || len(v.Names()) != 0 {
		t.Errorf("New: era %d, dead %v, names %v", v.Boot(), v.Dead(), v.Names())
	}
	cells := v.Cells()
	if len(cells) != 18 {
		t.Fatalf("%d cells", len(cells))
	}
	for i, c := range cells {
		if wanted := map[bool]string{true: era1}[i == 16]; hex.EncodeToString(c.Safe) != wanted || len(c.Next) != 0 || c.Fresh {
			t.Errorf("cell %d: %v", i, c)
		}
	}
	if _, is := v.Get("ann"); is {
		t.Error("Get of a new one")
	}
}

// P601: Put, Gone, by turns
func TestTurns(t *testing.T) {
	v := vault.New()
	want(t, "Put", v.Put(ann()), api.OK)
	if safe(v, 0) != first || safe(v, 1) != "" {
		t.Errorf("cells: %s, %s", safe(v, 0), safe(v, 1))
	}
	if r, is := v.Get("ann"); !is || !same(r, ann()) {
		t.Errorf("Get: %v, %v", r, is)
	}
	want(t, "Gone", v.Gone("ann"), api.OK)
	if safe(v, 0) != first || safe(v, 1) != second {
		t.Errorf("cells: %s, %s", safe(v, 0), safe(v, 1))
	}
	if r, is := v.Get("ann"); is || !reflect.DeepEqual(r, api.Record{}) || len(v.Names()) != 0 {
		t.Errorf("Get of one that is gone: %v", r)
	}
	want(t, "Gone again", v.Gone("ann"), api.Unknown)
	want(t, "Put", v.Put(account(1, 1)), api.OK)
	want(t, "Put", v.Put(ann()), api.OK)
	cells := v.Cells()
	if cells[0].Safe[7] != 3 || cells[1].Safe[7] != 2 || cells[2].Safe[7] != 1 || len(cells[3].Safe) != 0 {
		t.Error("turns are not as they should be")
	}
	if !slices.Equal(v.Names(), []string{"acc1", "ann"}) {
		t.Errorf("Names: %v", v.Names())
	}
}

// P601: errors, in their order
func TestErrors(t *testing.T) {
	v := vault.New()
	bad := ann()
	bad.Tokens = 256
	for i := range 8 {
		want(t, "Put", v.Put(account(7-i, i)), api.OK)
	}
	if got := v.Names(); !slices.Equal(got, []string{"acc0", "acc1", "acc2", "acc3", "acc4", "acc5", "acc6", "acc7"}) {
		t.Errorf("Names: %v", got)
	}
	was := v.Cells()
	want(t, "a ninth", v.Put(ann()), api.NoSpace)
	want(t, "a bad ninth", v.Put(bad), api.Range)
	want(t, "Gone of none", v.Gone("ann"), api.Unknown)
	want(t, "Gone of no name", v.Gone(""), api.Unknown)
	want(t, "Put of nothing", v.Put(api.Record{}), api.Range)
	if !reflect.DeepEqual(v.Cells(), was) {
		t.Error("an error changed something")
	}
	want(t, "Put of one that is there", v.Put(account(3, 99)), api.OK)
	if r, _ := v.Get("acc3"); r.At != 99 {
		t.Errorf("Get: %v", r)
	}
	want(t, "Gone", v.Gone("acc5"), api.OK)
	want(t, "Gone", v.Gone("acc2"), api.OK)
	want(t, "Put in the first place", v.Put(ann()), api.OK)
	if v.Cells()[4].Safe[7] != 3 || v.Cells()[10].Safe[7] != 1 {
		t.Error("not the first place that says nothing")
	}
	v.Fail(0)
	want(t, "Put that dies", v.Put(ann()), api.Dead)
	want(t, "Put of a dead one", v.Put(bad), api.Dead)
	want(t, "Gone of a dead one", v.Gone("nobody"), api.Dead)
}

// P601: Fail, Dead
func TestFail(t *testing.T) {
	for after := range 6 {
		v := vault.New()
		v.Fail(after)
		for i := range 4 {
			e := v.Put(account(1, i))
			if want := 2*(i+1) <= after; (e == api.OK) != want || e != api.OK && e != api.Dead {
				t.Errorf("Fail(%d): Put %d: %v", after, i, e)
			}
			if v.Dead() != (2*(i+1) > after) {
				t.Errorf("Fail(%d): Put %d: dead %v", after, i, v.Dead())
			}
			r, is := v.Get("acc1")
			if whole := min(i+1, after/2); is != (whole > 0) || is && r.At != whole-1 {
				t.Errorf("Fail(%d): Put %d: %v, %v", after, i, r, is)
			}
			cell := v.Cells()[min(i, after/2)%2]
			if half := v.Dead() && after%2 == 1; cell.Fresh != half || (len(cell.Next) > 0) != half {
				t.Errorf("Fail(%d): Put %d: cell %v", after, i, cell)
			}
		}
		if v.Boot() != 1 {
			t.Error("Boot of a dead one")
		}
	}
	v := vault.New()
	v.Fail(1)
	if v.Dead() {
		t.Error("dead ahead of its time")
	}
	v.Fail(-1)
	for i := range 50 {
		want(t, "Put behind Fail(-1)", v.Put(account(1, i)), api.OK)
	}
	v.Fail(0)
	if v.Dead() {
		t.Error("dead ahead of a step")
	}
	want(t, "Range takes no step", v.Put(api.Record{}), api.Range)
	want(t, "Unknown takes no step", v.Gone("x"), api.Unknown)
	if v.Dead() {
		t.Error("dead without a step")
	}
	want(t, "Gone that dies", v.Gone("acc1"), api.Dead)
	v.Fail(-1)
	v.Fail(5)
	if !v.Dead() || v.Put(ann()) != api.Dead {
		t.Error("Fail brought it back")
	}
	v.Again(nil)
	for i := range 50 {
		want(t, "Put behind Again", v.Put(account(1, i)), api.OK)
	}
}

// P602, P603: wherever it falls, each account is as before, or as behind.
func TestTorn(t *testing.T) {
	for name, c := range map[string]struct {
		ahead []api.Record
		do    func(v *vault.Vault) api.Errno
	}{
		"new":     {nil, func(v *vault.Vault) api.Errno { return v.Put(ann()) }},
		"again":   {[]api.Record{ann(), ann()}, func(v *vault.Vault) api.Errno { r := ann(); r.Tokens = 1; return v.Put(r) }},
		"longer":  {[]api.Record{ann(), ann()}, func(v *vault.Vault) api.Errno { r := ann(); r.Seal = make([]byte, 48); return v.Put(r) }},
		"shorter": {[]api.Record{ann(), ann()}, func(v *vault.Vault) api.Errno { r := ann(); r.Salt = nil; return v.Put(r) }},
		"gone":    {[]api.Record{ann()}, func(v *vault.Vault) api.Errno { return v.Gone("ann") }},
		"second":  {[]api.Record{ann(), account(1, 1)}, func(v *vault.Vault) api.Errno { return v.Gone("acc1") }},
	} {
		for after := range 3 {
			for torn := range 160 {
				v := vault.New()
				for _, r := range c.ahead {
					want(t, name, v.Put(r), api.OK)
				}
				was := all(v)
				old := v.Cells()
				v.Fail(after)
				e := c.do(v)
				if (e == api.OK) != (after == 2) {
					t.Fatalf("%s: Fail(%d): %v", name, after, e)
				}
				fresh := slices.IndexFunc(v.Cells(), func(c api.Cell) bool { return c.Fresh })
				if (fresh >= 0) != (after == 1) {
					t.Fatalf("%s: Fail(%d): fresh %d", name, after, fresh)
				}
				next := v.Cells()
				v.Again([]int{torn, 3, 3})
				if v.Dead() || v.Boot() != 2 || safe(v, 17) != era2 || safe(v, 16) != era1 {
					t.Fatalf("%s: Again: dead %v, era %d", name, v.Dead(), v.Boot())
				}
				got := all(v)
				for _, cell := range v.Cells() {
					if cell.Fresh || len(cell.Next) > 0 {
						t.Fatalf("%s: Again: fresh", name)
					}
				}
				if after == 1 {
					n := min(torn, len(next[fresh].Next))
					bytes := string(next[fresh].Next[:n])
					if n < len(old[fresh].Safe) {
						bytes += string(old[fresh].Safe[n:])
					}
					if string(v.Cells()[fresh].Safe) != bytes {
						t.Fatalf("%s: torn %d: %x", name, torn, v.Cells()[fresh].Safe)
					}
				}
				whole := after == 2 || after == 1 && torn >= len(next[fresh].Next) && len(old[fresh].Safe) <= len(next[fresh].Next)
				if !whole && !reflect.DeepEqual(got, was) {
					t.Fatalf("%s: Fail(%d), torn %d: %v, not %v", name, after, torn, got, was)
				}
				want(t, name, c.do(v), map[bool]api.Errno{true: api.Unknown}[whole && (name == "gone" || name == "second")])
				if behind := all(v); whole && !reflect.DeepEqual(got, behind) {
					t.Fatalf("%s: Fail(%d), torn %d: %v, not %v", name, after, torn, got, behind)
				}
			}
		}
	}
}

// P602: torn numbers out of bounds, and too few of them.
func TestTornBounds(t *testing.T) {
	for _, c := range []struct {
		torn []int
		is   bool
	}{{nil, false}, {[]int{}, false}, {[]int{0}, false}, {[]int{-1}, false}, {[]int{math.MinInt}, false}, {[]int{math.MaxInt}, true}, {[]int{0, 1000}, false}, {[]int{1000, 0}, true}} {
		v := vault.New()
		v.Fail(1)
		v.Put(ann())
		v.Again(c.torn)
		if _, is := v.Get("ann"); is != c.is || (safe(v, 0) != "") != c.is {
			t.Errorf("Again(%v): %v, %s", c.torn, is, safe(v, 0))
		}
	}
}

// P602: eras rise, of a device that is not dead, too.
func TestEras(t *testing.T) {
	v := vault.New()
	v.Put(ann())
	for era := 2; era < 300; era++ {
		if era%3 == 0 {
			v.Fail(0)
			v.Gone("ann")
		}
		if era%3 == 1 {
			v.Fail(1)
		}
		v.Again([]int{5, 5})
		if v.Boot() != era || v.Dead() {
			t.Fatalf("era %d: %d", era, v.Boot())
		}
		want(t, "Put", v.Put(ann()), api.OK)
	}
}

// T4: by many calls with falls between, a plain table tells the same.
func TestModel(t *testing.T) {
	n := uint64(5)
	die := func(k int) int { n = n*6364136223846793005 + 1442695040888963407; return int(n>>33) % k }
	v := vault.New()
	table := map[string]api.Record{}
	for i := range 5000 {
		if die(5) == 0 {
			v.Fail(die(6) - 1)
		}
		r := account(die(10), i)
		r.Seal = make([]byte, die(49))
		before, there := table[r.Name]
		e, gone := api.OK, die(3) == 0
		if gone {
			e = v.Gone(r.Name)
		} else {
			e = v.Put(r)
		}
		wanted := api.OK
		if gone && !there {
			wanted = api.Unknown
		} else if !gone && !there && len(table) == 8 {
			wanted = api.NoSpace
		}
		if !v.Dead() {
			want(t, "call", e, wanted)
		}
		if e == api.OK {
			delete(table, r.Name)
			if !gone {
				table[r.Name] = plain(r)
			}
		}
		if v.Dead() {
			v.Again([]int{die(200) - 20})
			got, is := v.Get(r.Name)
			asBefore := is == there && (!is || same(got, before))
			asToBe := is != gone && (!is || same(got, r))
			if !asBefore && !asToBe {
				t.Fatalf("%d: %v, %v", i, got, is)
			}
			delete(table, r.Name)
			if is {
				table[r.Name] = plain(got)
			}
		}
		if got := all(v); !reflect.DeepEqual(got, table) {
			t.Fatalf("%d: %v, not %v", i, got, table)
		}
	}
}

// P2, P7
func TestOwnMemory(t *testing.T) {
	v, other := vault.New(), vault.New()
	r := ann()
	v.Put(r)
	r.Salt[0] = 'x'
	got, _ := v.Get("ann")
	got.Salt[0] = 'y'
	v.Fail(1)
	v.Gone("ann")
	cells := v.Cells()
	for _, c := range cells {
		for _, b := range [][]byte{c.Safe, c.Next} {
			clear(b[:cap(b)])
		}
	}
	v.Names()[0] = "bob"
	if got, is := v.Get("ann"); !is || !same(got, ann()) || v.Boot() != 1 || v.Names()[0] != "ann" {
		t.Errorf("memory is shared: %v", got)
	}
	if len(other.Names()) != 0 || other.Dead() {
		t.Error("two vaults touch one another")
	}
}
