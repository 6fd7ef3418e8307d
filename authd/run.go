package authd

import (
	"sentinel/api"
	"sentinel/guard"
	"sentinel/opq"
	"sentinel/srp"
	"sentinel/wire"
)

// run is a login that was begun: by which record, and how its proof is checked.
type run struct {
	began  int
	record api.Record
	fake   bool
	check  func(proof []byte) (api.Sum, bool)
}

// hello begins a run, and charges it ahead of the answer.
func (s *Server) hello(a ask) (api.Msg, api.Errno) {
	if a.line.run != nil {
		return api.Msg{}, api.BadState
	}
	if s.Runs() >= api.Runs {
		return api.Msg{}, api.Busy
	}
	r, fake, e := s.charged(a.msg.Name, a.msg.Proto)
	if e != api.OK {
		return api.Msg{}, e
	}
	offer, check, is := s.offer(r, a)
	if !is || !wire.Right(offer) {
		return api.Msg{}, api.Refused
	}
	a.line.run = &run{began: s.tick, record: r, fake: fake, check: check}
	return offer, api.OK
}

// charged is the record of a name, one guess less; of nobody a fake, which costs nothing.
func (s *Server) charged(name string, proto int) (r api.Record, fake bool, e api.Errno) {
	r, is := s.vault.Get(name)
	if !is || r.Proto != proto {
		return opq.Fake(s.group, s.secret, name), true, api.OK
	}
	r, is = guard.Charge(r, s.tick)
	if !is {
		return api.Record{}, false, api.Locked
	}
	return r, false, s.vault.Put(r)
}

// offer is the server's part, by the way that is asked for.
func (s *Server) offer(r api.Record, a ask) (offer api.Msg, check func([]byte) (api.Sum, bool), is bool) {
	if a.msg.Proto == api.Srp {
		side, b, is := srp.Offer(s.group, r, a.msg.A, a.draw)
		check = func(proof []byte) (api.Sum, bool) { return srp.Check(side, proof) }
		return api.Msg{Kind: api.MOffer, Proto: api.Srp, B: b, Salt: r.Salt}, check, is
	}
	side, eval, mine, seal, is := opq.Offer(s.group, r, s.secret, a.msg.A, a.msg.B, a.draw)
	check = func(proof []byte) (api.Sum, bool) { return opq.Check(side, proof) }
	return api.Msg{Kind: api.MOffer, Proto: api.Opq, A: eval, B: mine, Seal: seal}, check, is
}

// prove ends a run; who is let in gets the guess back.
func (s *Server) prove(a ask) (api.Msg, api.Errno) {
	begun := a.line.run
	if begun == nil {
		return api.Msg{}, api.BadState
	}
	a.line.run = nil
	tag, is := begun.check(a.msg.Tag)
	r, there := s.vault.Get(begun.record.Name)
	if !is || begun.fake || !there || !alike(r, begun.record) {
		return api.Msg{}, api.Refused
	}
	if e := s.vault.Put(guard.Refund(r, s.tick)); e != api.OK {
		return api.Msg{}, e
	}
	return api.Msg{Kind: api.MProved, Tag: tag[:], Token: s.issue(r.Name, a.conn)}, api.OK
}

// alike tells whether a login by one record holds for the other.
func alike(a, b api.Record) bool {
	return a.V == b.V && a.Key == b.Key && a.Proto == b.Proto
}
