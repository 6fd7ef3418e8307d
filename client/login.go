package client

import (
	"sentinel/api"
	"sentinel/opq"
	"sentinel/srp"
)

// login is one that was begun, by either way.
type login struct {
	proto int
	prove func(offer api.Msg) (proof api.Sum, is bool)
	done  func(tag []byte) bool
	key   func() api.Sum
}

// begun is the login of a side: what it proves it learns by, till the end.
func begun[S any](proto int, side S, prove func(S, api.Msg) (S, api.Sum, bool), done func(S, []byte) bool, key func(S) api.Sum) login {
	return login{
		proto: proto,
		prove: func(offer api.Msg) (api.Sum, bool) {
			proved, proof, is := prove(side, offer)
			side = proved
			return proof, is
		},
		done: func(tag []byte) bool { return done(side, tag) },
		key:  func() api.Sum { return key(side) },
	}
}

// begin draws what a login needs, and tells what it says first.
func (c *Client) begin(proto int, draw []byte) (login, api.Msg, bool) {
	hello := api.Msg{Kind: api.MHello, Proto: proto, Name: c.name}
	switch {
	case !c.fits:
	case proto == api.Srp:
		side, a := srp.Hello(c.group, c.name, c.pass, draw)
		hello.A = a
		return begun(proto, side, srpProve, srp.Done, func(s srp.Side) api.Sum { return s.Key }), hello, true
	case proto == api.Opq:
		side, blind, mine := opq.Hello(c.group, c.name, c.pass, draw)
		hello.A, hello.B = blind, mine
		return begun(proto, side, c.opqProve, opq.Done, func(s opq.Side) api.Sum { return s.Key }), hello, true
	}
	return login{}, api.Msg{}, false
}

func srpProve(s srp.Side, offer api.Msg) (srp.Side, api.Sum, bool) {
	return srp.Prove(s, offer.Salt, offer.B)
}

func (c *Client) opqProve(s opq.Side, offer api.Msg) (opq.Side, api.Sum, bool) {
	return opq.Prove(s, offer.A, offer.B, c.server, offer.Seal)
}
