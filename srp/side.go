package srp

import (
	"sentinel/api"
	"sentinel/limb"
	"sentinel/sponge"
	"sentinel/talk"
)

// scramble is the exponent that both sides make of what they sent.
func (s Side) scramble() api.Num {
	return talk.Exponent(s.G, "u", limb.Bytes(s.A), limb.Bytes(s.B))
}

// sharing is a side that came to the number that both share.
func (s Side) sharing(number api.Num) Side {
	s.Key = sponge.Of([]byte("key"), limb.Bytes(number))
	said := [][]byte{[]byte("1"), []byte(s.Name), s.Salt}
	for b := range talk.Written(s.A, s.B) {
		said = append(said, b)
	}
	s.Proof = sponge.Mac(s.Key[:], said...)
	return s
}

// first is the client's proof.
func (s Side) first() api.Sum {
	return s.Proof
}

// second is the server's.
func (s Side) second() api.Sum {
	return talk.Answer(s.Key, s.Proof)
}
