package mont

import (
	"sentinel/api"
	"sentinel/limb"
)

// product is how things of one kind are multiplied: the one that changes nothing, and a choice between two that
// no clock could tell.
type product[T any] struct {
	one   T
	times func(x, y T) T
	pick  func(yes uint32, x, y T) T
}

// power is a to the e. It multiplies at each bit, set or not, so that it takes as long for any e of as many bits.
func (p product[T]) power(a T, e api.Num) T {
	x := p.one
	for i := limb.Bits(e) - 1; i >= 0; i-- {
		x = p.times(x, x)
		x = p.pick(e[i/32]>>(i%32)&1, p.times(x, a), x)
	}
	return x
}
