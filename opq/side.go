package opq

import (
	"sentinel/api"
	"sentinel/sponge"
	"sentinel/talk"
)

// shared are the three numbers that both sides come to: by what both drew, by the server's own exponent, by the
// client's.
type shared struct {
	both, server, client api.Num
}

// sharing is a side that came to them, behind what both said: the client's two numbers, the server's two.
func (s Side) sharing(by shared, said ...api.Num) Side {
	var texts [][]byte
	for b := range talk.Written(by.both, by.server, by.client) {
		texts = append(texts, b)
	}
	texts = append(texts, []byte(s.Name))
	for b := range talk.Written(said...) {
		texts = append(texts, b)
	}
	s.Key = sponge.Of(append([][]byte{[]byte("key")}, texts...)...)
	s.Proof = sponge.Mac(s.Key[:], []byte("1"))
	return s
}

// first is the client's proof.
func (s Side) first() api.Sum {
	return s.Proof
}

// second is the server's.
func (s Side) second() api.Sum {
	return talk.Answer(s.Key, s.Proof)
}
