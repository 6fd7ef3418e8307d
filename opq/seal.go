package opq

import (
	"slices"

	"sentinel/api"
	"sentinel/limb"
	"sentinel/sponge"
)

const (
	times  = 3  // how often a password is stretched
	hidden = 4  // bytes of a number under a seal
	sealed = 20 // bytes of a seal
)

// word is what a password, and what the server's key made of it, come to.
func word(pass []byte, name string, y api.Num) api.Sum {
	text := sponge.Of([]byte("w"), pass, limb.Bytes(y))
	return sponge.Stretch(text[:], []byte(name), times)
}

// sealer seals the number of a name, by a word, for a server.
type sealer struct {
	word   api.Sum
	server api.Num
	name   string
}

// seal hides a number, and marks it.
func (b sealer) seal(c api.Num) []byte {
	four := b.hide(limb.Bytes(c)[4*api.Limbs-hidden:])
	mark := b.mark(four)
	return append(four, mark[:]...)
}

// open is what is sealed; false: that is no seal by this word.
func (b sealer) open(seal []byte) (api.Num, bool) {
	if len(seal) != sealed {
		return api.Num{}, false
	}
	mark := b.mark(seal[:hidden])
	if !sponge.Same(mark[:], seal[hidden:]) {
		return api.Num{}, false
	}
	return limb.Read(b.hide(seal[:hidden]))
}

// hide turns four bytes into others, and back.
func (b sealer) hide(four []byte) []byte {
	out := slices.Clone(four)
	for i, c := range sponge.Stream(b.word[:], hidden) {
		out[i] ^= c
	}
	return out
}

// mark is what tells that hidden bytes were sealed by the word.
func (b sealer) mark(four []byte) api.Sum {
	return sponge.Mac(b.word[:], []byte("seal"), four, limb.Bytes(b.server), []byte(b.name))
}
