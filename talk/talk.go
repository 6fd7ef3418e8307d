// Package talk: what both ways to prove a password have alike: how numbers are summed, exponents drawn, proofs held.
package talk

import (
	"iter"

	"sentinel/api"
	"sentinel/group"
	"sentinel/limb"
	"sentinel/sponge"
)

// Written yields numbers as the bytes that they are summed as.
func Written(numbers ...api.Num) iter.Seq[[]byte] {
	return func(yield func([]byte) bool) {
		for _, n := range numbers {
			if !yield(limb.Bytes(n)) {
				return
			}
		}
	}
}

// Exponent is that of a text, and of parts behind it.
func Exponent(g api.Group, text string, parts ...[]byte) api.Num {
	all := append([][]byte{[]byte(text)}, parts...)
	sum := sponge.Of(all...)
	return group.Exponent(g, sum[:])
}

// Answer is the server's proof, which it tells when the client's was the one.
func Answer(key, proof api.Sum) api.Sum {
	return sponge.Mac(key[:], []byte("2"), proof[:])
}

// Holds tells whether proof is what tag makes of a side.
func Holds[S any](side S, proof []byte, tag func(S) api.Sum) bool {
	want := tag(side)
	return sponge.Same(want[:], proof)
}
