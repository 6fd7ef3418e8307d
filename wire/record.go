package wire

import (
	"sentinel/api"
	"sentinel/limb"
	"sentinel/words"
)

// Record writes what is kept of an account.
func Record(r api.Record) ([]byte, bool) {
	if !keeps(r) {
		return nil, false
	}
	b := []byte{byte(r.Proto)}
	b = counted(b, []byte(r.Name))
	b = counted(b, r.Salt)
	b = counted(b, r.Seal)
	b = append(b, four(r.V)...)
	b = append(b, four(r.Key)...)
	b = append(b, byte(r.Tokens))
	b = append(b, words.Eight(r.At)...)
	return append(b, words.Eight(r.Revoked)...), true
}

// keeps tells whether a record is within its bounds.
func keeps(r api.Record) bool {
	return isProto(r.Proto) && words.IsName(r.Name) &&
		len(r.Salt) <= maxSalt && len(r.Seal) <= maxSeal &&
		limb.Bits(r.V) <= 32 && limb.Bits(r.Key) <= 32 &&
		r.Tokens >= 0 && r.Tokens <= 255 && r.At >= 0 && r.Revoked >= 0
}

// ReadRecord reads what Record wrote, and nothing else.
func ReadRecord(b []byte) (api.Record, bool) {
	in := reader{rest: b}
	var r api.Record
	r.Proto = in.octet()
	r.Name = string(in.counted())
	r.Salt = in.counted()
	r.Seal = in.counted()
	r.V = in.four()
	r.Key = in.four()
	r.Tokens = in.octet()
	r.At = in.number(8)
	r.Revoked = in.number(8)
	return proven(r, Record, b)
}
