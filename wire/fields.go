package wire

import (
	"iter"

	"sentinel/api"
	"sentinel/limb"
	"sentinel/words"
)

// The numbers of the fields.
const (
	fProto = iota + 1
	fName
	fA
	fB
	fSalt
	fSeal
	fTag
	fToken
	fRecord
	fChannel
	fE
)

// there yields the fields that are there: their numbers, rising, and what they hold.
func there(m api.Msg) iter.Seq2[int, []byte] {
	return func(yield func(int, []byte) bool) {
		for number := fProto; number <= fE; number++ {
			content := content(m, number)
			if len(content) > 0 && !yield(number, content) {
				return
			}
		}
	}
}

// content is what a field holds; of one that is not there, nothing.
func content(m api.Msg, number int) []byte {
	switch number {
	case fProto:
		return octet(m.Proto)
	case fName:
		return []byte(m.Name)
	case fA:
		return fourOrNone(m.A)
	case fB:
		return fourOrNone(m.B)
	case fSalt:
		return m.Salt
	case fSeal:
		return m.Seal
	case fTag:
		return m.Tag
	case fToken:
		return m.Token
	case fRecord:
		return m.Record
	case fChannel:
		return eightOrNone(m.Channel)
	case fE:
		return octet(int(m.E))
	}
	return nil
}

// set lays into a field what content told of it.
func set(m *api.Msg, number int, content []byte) {
	switch number {
	case fProto:
		m.Proto, _ = words.Number(content)
	case fName:
		m.Name = string(content)
	case fA:
		m.A, _ = limb.Read(content)
	case fB:
		m.B, _ = limb.Read(content)
	case fSalt:
		m.Salt = content
	case fSeal:
		m.Seal = content
	case fTag:
		m.Tag = content
	case fToken:
		m.Token = content
	case fRecord:
		m.Record = content
	case fChannel:
		m.Channel, _ = words.Number(content)
	case fE:
		e, _ := words.Number(content)
		m.E = api.Errno(e)
	}
}

func octet(n int) []byte {
	if n == 0 {
		return nil
	}
	return []byte{byte(n)}
}

func fourOrNone(a api.Num) []byte {
	if a == (api.Num{}) {
		return nil
	}
	return four(a)
}

// four is a number below 2^32 as bytes.
func four(a api.Num) []byte {
	return limb.Bytes(a)[28:]
}

func eightOrNone(n int) []byte {
	if n == 0 {
		return nil
	}
	return words.Eight(n)
}
