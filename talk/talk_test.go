package talk_test

import (
	"slices"
	"testing"

	"sentinel/api"
	"sentinel/group"
	"sentinel/limb"
	"sentinel/sponge"
	"sentinel/talk"
)

// Numbers are summed as all of their 32 bytes, in their order, as far as they are asked for.
func TestWritten(t *testing.T) {
	a, b := limb.From(1), limb.From(258)
	got := slices.Collect(talk.Written(a, b))
	if len(got) != 2 || !slices.Equal(got[0], limb.Bytes(a)) || !slices.Equal(got[1], limb.Bytes(b)) {
		t.Errorf("Written: %v", got)
	}
	for range talk.Written(a, b) {
		break
	}
}

// An exponent is of the sum of a text and of what is behind it; parts stay as they were.
func TestExponent(t *testing.T) {
	g, _ := group.Make(31)
	parts := [][]byte{[]byte("draw"), nil, []byte("spare")}
	sum := sponge.Of([]byte("a"), []byte("draw"), nil)
	if got := talk.Exponent(g, "a", parts[:2]...); got != group.Exponent(g, sum[:]) || string(parts[2]) != "spare" {
		t.Errorf("Exponent: %v", got)
	}
}

// The server's proof is another than the client's, and each is held to the byte.
func TestAnswerHolds(t *testing.T) {
	key, proof := sponge.Of([]byte("key")), sponge.Of([]byte("proof"))
	want := sponge.Mac(key[:], []byte("2"), proof[:])
	if talk.Answer(key, proof) != want {
		t.Error("Answer")
	}
	tag := func(k api.Sum) api.Sum { return talk.Answer(k, proof) }
	if !talk.Holds(key, want[:], tag) || talk.Holds(key, want[:15], tag) || talk.Holds(key, proof[:], tag) {
		t.Error("Holds")
	}
}
