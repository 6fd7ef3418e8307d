package vault

import (
	"bytes"
	"slices"

	"sentinel/api"
	"sentinel/sponge"
	"sentinel/words"
)

// Where the parts of a cell's bytes stand.
const (
	lengthAt = 8
	saysAt   = 9
)

// entry is what a good cell says, and its turn.
type entry struct {
	place, turn int
	says        []byte
}

// bytes are those of the cell that says so.
func (e entry) bytes() []byte {
	b := slices.Concat(words.Eight(e.turn), []byte{byte(len(e.says))}, e.says)
	sum := sponge.Of([]byte("cell"), words.Eight(e.place), b)
	return append(b, sum[:]...)
}

// good reads a cell's bytes, if they are just those of an entry.
func good(place int, b []byte) (entry, bool) {
	end := len(b) - len(api.Sum{})
	if end < saysAt {
		return entry{}, false
	}
	turn, _ := words.Number(b[:lengthAt])
	e := entry{place: place, turn: turn, says: b[saysAt:end]}
	return e, bytes.Equal(e.bytes(), b)
}

// pair is two cells that are written by turns, so that one of them is whole wherever the device falls; they say
// what read reads.
type pair[T any] struct {
	first int
	read  func(says []byte) (T, bool)
}

// counts is the entry that counts, of the two.
func (p pair[T]) counts(d *device) (entry, bool) {
	a, goodA := good(p.first, d.cells[p.first].Safe)
	b, goodB := good(p.first+1, d.cells[p.first+1].Safe)
	if goodB && (!goodA || b.turn > a.turn) {
		return b, true
	}
	return a, goodA
}

// says is what the pair says; false: nothing.
func (p pair[T]) says(d *device) (T, bool) {
	e, is := p.counts(d)
	if !is {
		var none T
		return none, false
	}
	return p.read(e.says)
}

// empty tells whether the pair says nothing.
func (p pair[T]) empty(d *device) bool {
	e, is := p.counts(d)
	return !is || len(e.says) == 0
}

// write lets the pair say something else, by the cell that does not count; false: the device died on the way.
func (p pair[T]) write(d *device, says []byte) bool {
	next := entry{place: p.first, turn: 1, says: says}
	if e, is := p.counts(d); is {
		next.place = 2*p.first + 1 - e.place
		next.turn = e.turn + 1
	}
	return d.write(next.place, next.bytes())
}
