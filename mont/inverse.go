package mont

import (
	"sentinel/api"
	"sentinel/limb"
)

// row is what is left, and how often a is in it, by m. Of the rows that follow one another the signs of times
// take turns, so that it is kept without.
type row struct {
	rest, times api.Num
}

// Inverse is Euclid's way: each row less the next one, as often as that goes, till nothing is left.
func Inverse(a, m api.Num) (api.Num, bool) {
	rest, is := limb.Rest(a, api.Num{}, m)
	if !is {
		return api.Num{}, false
	}
	one := limb.From(1)
	above, below := row{rest: m}, row{rest: rest, times: one}
	minus := true
again:
	if below.rest != (api.Num{}) {
		above, below = below, above.without(below)
		minus = !minus
		goto again
	}
	if above.rest != one || m == one {
		return api.Num{}, false
	}
	if minus {
		above.times, _ = limb.Sub(m, above.times)
	}
	return above.times, true
}

// without takes by off, as often as it goes.
func (r row) without(by row) row {
	for k := limb.Bits(r.rest) - limb.Bits(by.rest); k >= 0; k-- {
		less, lent := limb.Sub(r.rest, shift(by.rest, k))
		if lent == 0 {
			r.rest = less
			r.times, _ = limb.Add(r.times, shift(by.times, k))
		}
	}
	return r
}

// shift is a times 2^k.
func shift(a api.Num, k int) api.Num {
	var up api.Num
	limbs, by := k/32, k%32
	for i := limbs; i < api.Limbs; i++ {
		up[i] = a[i-limbs] << by
		if i > limbs {
			up[i] |= a[i-limbs-1] >> (32 - by)
		}
	}
	return up
}
