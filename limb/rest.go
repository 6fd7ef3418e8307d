package limb

import (
	"math/bits"
	"slices"

	"sentinel/api"
)

// Rest divides as on paper, limb by limb from the top. Both numbers are shifted first, so that the divisor's
// highest bit is set: then a digit that is guessed by the highest limbs is at most 2 too great.
func Rest(lo, hi, m api.Num) (api.Num, bool) {
	n := (Bits(m) + 31) / 32
	if n == 0 {
		return api.Num{}, false
	}
	by := bits.LeadingZeros32(m[n-1])
	divisor := shifted(m[:n:n], by)[:n]
	rest := shifted(slices.Concat(lo[:], hi[:]), by)
	for end := len(rest); end > n; end-- {
		reduce(rest[end-n-1:end:end], divisor)
	}
	return back(rest[:n:n], by), true
}

// shifted is limbs times 2^by (by below 32), in one limb more.
func shifted(limbs []uint32, by int) []uint32 {
	up := make([]uint32, len(limbs)+1)
	for i, l := range limbs {
		long := uint64(l) << by
		up[i] |= uint32(long)
		up[i+1] = uint32(long >> 32)
	}
	return up
}

// back is the number of which limbs are 2^by times as much.
func back(limbs []uint32, by int) api.Num {
	var a api.Num
	above := uint64(0)
	for i := len(limbs) - 1; i >= 0; i-- {
		above = above<<32 | uint64(limbs[i])
		a[i] = uint32(above >> by)
	}
	return a
}

// reduce leaves in window, which has one limb more than divisor, what is left of it by divisor; its highest limb is
// nothing any more. Where a guess was too great, so little was owed that it is paid once the lower limbs carry.
func reduce(window, divisor []uint32) {
	owed := along(window, divisor, debt{}, less(guess(window, divisor)))
	_, lent := bits.Sub32(window[len(divisor)], uint32(owed.carry), owed.lent)
	for lent != 0 {
		lent -= along(window, divisor, 0, bits.Add32)
	}
}

// guess is how often divisor goes into window, or up to 2 more.
func guess(window, divisor []uint32) uint32 {
	n := len(divisor)
	top := uint64(window[n])<<32 | uint64(window[n-1])
	return uint32(min(top/uint64(divisor[n-1]), 1<<32-1))
}
