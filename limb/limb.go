// Package limb: numbers. See doc/01-limb.md.
package limb

import (
	"math/bits"

	"sentinel/api"
)

// size is how many bytes a limb has, wide how many a number has.
const (
	size = 4
	wide = size * api.Limbs
)

// From is n as a number; of one below 0 it is 0.
func From(n int) api.Num {
	if n < 0 {
		return api.Num{}
	}
	return api.Num{uint32(n), uint32(uint64(n) >> 32)}
}

// Bytes writes all 32 bytes of a, the highest first.
func Bytes(a api.Num) []byte {
	b := make([]byte, wide)
	for i, l := range a {
		at := place(b, i)
		for j := range at {
			at[size-1-j] = byte(l >> (8 * j))
		}
	}
	return b
}

// Read reads up to 32 bytes, the highest first.
func Read(b []byte) (api.Num, bool) {
	if len(b) > wide {
		return api.Num{}, false
	}
	full := make([]byte, wide)
	copy(full[wide-len(b):], b)
	var a api.Num
	for i := range a {
		for _, c := range place(full, i) {
			a[i] = a[i]<<8 | uint32(c)
		}
	}
	return a, true
}

// place is where limb i stands in a number's bytes, with no room beyond it.
func place(b []byte, i int) []byte {
	end := len(b) - size*i
	return b[end-size : end : end]
}

// Cmp is -1, 0 or 1, as a is below b, b, or above it.
func Cmp(a, b api.Num) int {
	for i := api.Limbs - 1; i >= 0; i-- {
		if a[i] < b[i] {
			return -1
		}
		if a[i] > b[i] {
			return 1
		}
	}
	return 0
}

// Add is the sum by 2^256, and what is carried beyond.
func Add(a, b api.Num) (api.Num, uint32) {
	carry := along(a[:], b[:], 0, bits.Add32)
	return a, carry
}

// Sub is the difference by 2^256, and what it lends from beyond.
func Sub(a, b api.Num) (api.Num, uint32) {
	lent := along(a[:], b[:], 0, bits.Sub32)
	return a, lent
}

// Mul is the whole product, its lower and its higher half.
func Mul(a, b api.Num) (lo, hi api.Num) {
	var all [2 * api.Limbs]uint32
	for i, digit := range a {
		end := i + api.Limbs
		all[end] = uint32(along(all[i:end:end], b[:], 0, times(digit)))
	}
	copy(lo[:], all[:api.Limbs])
	copy(hi[:], all[api.Limbs:])
	return lo, hi
}

// Pick is a or b, without a choice that a clock could tell.
func Pick(yes uint32, a, b api.Num) api.Num {
	mask := -((yes | -yes) >> 31)
	for i := range a {
		a[i] = a[i]&mask | b[i]&^mask
	}
	return a
}

// Bits is how many bits a has, without the zeros ahead.
func Bits(a api.Num) int {
	for i := api.Limbs - 1; i >= 0; i-- {
		if a[i] != 0 {
			return 32*i + bits.Len32(a[i])
		}
	}
	return 0
}
