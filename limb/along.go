package limb

import "math/bits"

// along goes through row, the lowest limb first: step makes of each limb, of other's beside it, and of what
// was carried, the limb that takes its place, and what is carried on. It answers what is carried at the end.
func along[C any](row, other []uint32, carry C, step func(x, y uint32, carry C) (uint32, C)) C {
	for i, y := range other {
		row[i], carry = step(row[i], y, carry)
	}
	return carry
}

// times is a step that adds digit times the other row.
func times(digit uint32) func(x, y uint32, carry uint64) (uint32, uint64) {
	return func(x, y uint32, carry uint64) (uint32, uint64) {
		carry += uint64(digit)*uint64(y) + uint64(x)
		return uint32(carry), carry >> 32
	}
}

// debt is what a step of less carries: of the product, and of the difference.
type debt struct {
	carry uint64
	lent  uint32
}

// less is a step that takes off digit times the other row.
func less(digit uint32) func(x, y uint32, d debt) (uint32, debt) {
	return func(x, y uint32, d debt) (uint32, debt) {
		d.carry += uint64(digit) * uint64(y)
		x, d.lent = bits.Sub32(x, uint32(d.carry), d.lent)
		d.carry >>= 32
		return x, d
	}
}
