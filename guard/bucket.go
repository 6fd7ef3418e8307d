package guard

import "sentinel/api"

// bucket holds tokens, as of a tick; both are counted in the same kind of number.
type bucket[N ~int | ~int32 | ~int64] struct {
	holds, at N
}

// by is the bucket at a later tick. What is not a whole token yet goes on from its own tick; of a full bucket
// nothing does.
func (b bucket[N]) by(now N) bucket[N] {
	if now <= b.at {
		return b
	}
	n := (now - b.at) / api.Refill
	b.holds = min(b.holds+n, api.Depth)
	b.at += n * api.Refill
	if b.holds == api.Depth {
		b.at = now
	}
	return b
}
