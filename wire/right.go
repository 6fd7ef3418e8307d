package wire

import (
	"sentinel/api"
	"sentinel/limb"
	"sentinel/words"
)

// The most bytes that a field may have.
const (
	maxSalt   = 16
	maxSeal   = 48
	maxTag    = 16
	maxToken  = 80
	maxRecord = 120
)

// fieldSet is some of the fields, a bit each.
type fieldSet uint

func fields(numbers ...int) fieldSet {
	var s fieldSet
	for _, number := range numbers {
		s |= 1 << number
	}
	return s
}

// Right tells whether just those fields are there that are to be, each within its bounds.
func Right(m api.Msg) bool {
	var has fieldSet
	for number := range there(m) {
		has |= fields(number)
	}
	if m.Kind == api.MProved { // with a Tag or not
		has |= fields(fTag)
	}
	must, is := wanted(m.Kind, m.Proto)
	return is && has == must && fits(m)
}

// wanted is what is to be there of a kind; false: there is no such kind.
func wanted(kind, proto int) (fieldSet, bool) {
	switch kind {
	case api.MHello:
		if proto == api.Opq {
			return fields(fProto, fName, fA, fB), true
		}
		return fields(fProto, fName, fA), true
	case api.MOffer:
		if proto == api.Opq {
			return fields(fProto, fA, fB, fSeal), true
		}
		return fields(fProto, fB, fSalt), true
	case api.MProve:
		return fields(fTag), true
	case api.MProved:
		return fields(fToken, fTag), true
	case api.MError:
		return fields(fE), true
	case api.MEnrol:
		return fields(fProto, fName, fRecord), true
	case api.MDone:
		return fields(), true
	case api.MCheck, api.MRefresh:
		return fields(fToken, fChannel), true
	case api.MRevoke, api.MDelete:
		return fields(fToken), true
	case api.MChange:
		return fields(fToken, fProto, fRecord), true
	}
	return 0, false
}

// fits tells whether each field that is there is within its bounds.
func fits(m api.Msg) bool {
	return (m.Proto == 0 || isProto(m.Proto)) && (m.Name == "" || words.IsName(m.Name)) &&
		limb.Bits(m.A) <= 32 && limb.Bits(m.B) <= 32 &&
		len(m.Salt) <= maxSalt && len(m.Seal) <= maxSeal && len(m.Tag) <= maxTag &&
		len(m.Token) <= maxToken && len(m.Record) <= maxRecord &&
		m.Channel >= 0 && m.E >= api.OK && m.E <= api.Range
}

func isProto(proto int) bool {
	return proto == api.Srp || proto == api.Opq
}
