package wire

import (
	"slices"

	"sentinel/api"
	"sentinel/limb"
	"sentinel/words"
)

// reader takes bytes off, one thing behind the other; what is missing at the end is as if it were nothing.
type reader struct {
	rest []byte
}

// take is a copy of the next n bytes.
func (r *reader) take(n int) []byte {
	n = min(n, len(r.rest))
	taken := slices.Clone(r.rest[:n])
	r.rest = r.rest[n:]
	return taken
}

// number is the next n bytes, 8 at most, as one; what no int holds is as 0.
func (r *reader) number(n int) int {
	x, _ := words.Number(r.take(n))
	return x
}

func (r *reader) octet() int {
	return r.number(1)
}

// counted is what stands behind how many bytes it has.
func (r *reader) counted() []byte {
	return r.take(r.octet())
}

func (r *reader) four() api.Num {
	a, _ := limb.Read(r.take(4))
	return a
}
