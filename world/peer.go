package world

import (
	"iter"

	"sentinel/api"
	"sentinel/client"
	"sentinel/wire"
)

// peer is a client in its world: its connection, and what flies between it and the server.
type peer struct {
	name      string
	pass      []byte
	client    *client.Client
	conn      int // 0: it was closed
	up, down  lane[[]byte]
	heard     api.Errno
	refreshed []byte // the token that counts, if the login's does not
}

// lane is what flies one way, the first of it ahead.
type lane[T any] struct {
	flies []T
}

func (l *lane[T]) push(x T) {
	l.flies = append(l.flies, x)
}

func (l *lane[T]) pop() (T, bool) {
	var first T
	if len(l.flies) == 0 {
		return first, false
	}
	first = l.flies[0]
	l.flies = l.flies[1:]
	return first, true
}

// flyUp, flyDown let something fly, if there is anything.
func (p *peer) flyUp(b []byte) {
	if len(b) > 0 {
		p.up.push(b)
	}
}

func (p *peer) flyDown(b []byte) {
	if len(b) > 0 {
		p.down.push(b)
	}
}

// hear lets the client hear, and answer.
func (p *peer) hear(b []byte) {
	say, e := p.client.Hear(b)
	p.heard = e
	p.flyUp(say)
}

// token is the one that counts; false: the client is not inside.
func (p *peer) token() ([]byte, bool) {
	_, token, is := p.client.Inside()
	if is && len(p.refreshed) > 0 {
		token = p.refreshed
	}
	return token, is
}

// answered tells what a question came to.
func (p *peer) answered(m api.Msg) api.Errno {
	switch m.Kind {
	case api.MProved:
		p.refreshed = m.Token
	case api.MError:
		return m.E
	}
	return api.OK
}

// question is what is asked by a token; false: that is not asked.
func question(kind int, token []byte, channel int) ([]byte, bool) {
	m := api.Msg{Kind: kind, Token: token}
	switch kind {
	case api.MCheck, api.MRefresh:
		m.Channel = channel
	case api.MRevoke, api.MDelete:
	default:
		return nil, false
	}
	return wire.Encode(m)
}

// messages yields those of an answer.
func messages(answer []byte) iter.Seq[api.Msg] {
	return func(yield func(api.Msg) bool) {
		stream := wire.New()
		stream.Write(answer)
		for m, is := stream.Next(); is && yield(m); m, is = stream.Next() {
		}
	}
}

// closed tells whether the server closed the connection behind an answer: it says so as it does.
func closed(answer []byte) bool {
	for m := range messages(answer) {
		if m.Kind == api.MError && m.E == api.BadFrame {
			return true
		}
	}
	return false
}
