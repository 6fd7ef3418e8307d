package authd

import (
	"sentinel/api"
	"sentinel/group"
	"sentinel/guard"
	"sentinel/limb"
	"sentinel/sponge"
	"sentinel/wire"
	"sentinel/words"
)

// sealed is how many bytes the seal of a record has.
const sealed = 20

// ask is a message that is to be answered, whose, and by what draw.
type ask struct {
	conn int
	line *line
	msg  api.Msg
	draw []byte
}

func (s *Server) answer(a ask) (api.Msg, api.Errno) {
	switch a.msg.Kind {
	case api.MEnrol:
		return s.enrol(a.msg)
	case api.MHello:
		return s.hello(a)
	case api.MProve:
		return s.prove(a)
	case api.MCheck, api.MRefresh:
		return s.byToken(a.msg, a.msg.Channel)
	case api.MRevoke, api.MDelete, api.MChange:
		return s.byToken(a.msg, a.conn)
	}
	return api.Msg{}, api.BadState
}

// done is the answer to what leaves nothing to be told.
func done(e api.Errno) (api.Msg, api.Errno) {
	return api.Msg{Kind: api.MDone}, e
}

func (s *Server) enrol(m api.Msg) (api.Msg, api.Errno) {
	r, is := s.fitting(m.Record, m.Name, m.Proto)
	if !is {
		return api.Msg{}, api.Refused
	}
	if _, there := s.vault.Get(m.Name); there {
		return api.Msg{}, api.Exists
	}
	r.Tokens, r.At, r.Revoked = api.Depth, s.tick, 0
	return done(s.vault.Put(r))
}

// fitting reads a record that a client made, if it is of that name, by that way, and one that a login can be held
// against.
func (s *Server) fitting(b []byte, name string, proto int) (api.Record, bool) {
	r, is := wire.ReadRecord(b)
	if !is || r.Name != name || r.Proto != proto || !group.Has(s.group, r.V) {
		return api.Record{}, false
	}
	if proto == api.Srp {
		return r, len(r.Salt) > 0
	}
	return r, len(r.Seal) == sealed && limb.Bits(r.Key) > 0 && limb.Cmp(r.Key, s.group.Q) < 0
}

// byToken answers what is asked by a token that is good on that channel.
func (s *Server) byToken(m api.Msg, channel int) (api.Msg, api.Errno) {
	t, r, is := s.holder(m.Token, channel)
	if !is {
		return api.Msg{}, api.Refused
	}
	switch m.Kind {
	case api.MRevoke:
		r.Revoked = t.Id + 1
		return done(s.vault.Put(r))
	case api.MDelete:
		return done(s.vault.Gone(t.Name))
	case api.MChange:
		return s.change(m, t, r)
	case api.MRefresh:
		return api.Msg{Kind: api.MProved, Token: s.issue(t.Name, channel)}, api.OK
	}
	return done(api.OK)
}

// change lays another record in a record's place; its bucket stays, and its tokens are none any more.
func (s *Server) change(m api.Msg, t api.Token, was api.Record) (api.Msg, api.Errno) {
	r, is := s.fitting(m.Record, t.Name, m.Proto)
	if !is {
		return api.Msg{}, api.Refused
	}
	r.Tokens, r.At, r.Revoked = was.Tokens, was.At, t.Id+1
	return done(s.vault.Put(r))
}

// holder reads a token that is good, and tells whose it is.
func (s *Server) holder(token []byte, channel int) (api.Token, api.Record, bool) {
	t, is := guard.Read(s.key(), token)
	if !is {
		return api.Token{}, api.Record{}, false
	}
	r, is := s.vault.Get(t.Name)
	return t, r, is && guard.Live(t, r, channel, s.tick, s.era)
}

// issue makes a token for a channel.
func (s *Server) issue(name string, channel int) []byte {
	t := api.Token{Name: name, Id: s.era<<20 + s.issued, Channel: channel, End: s.tick + api.Life, Era: s.era}
	s.issued++
	return guard.Issue(s.key(), t)
}

// key is what tokens are marked by.
func (s *Server) key() []byte {
	sum := sponge.Mac(s.secret, []byte("tokens"), words.Eight(s.era), words.Eight(s.rotated))
	return sum[:]
}
