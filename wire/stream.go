package wire

import "sentinel/api"

// most is behind how many bytes a stream takes no more.
const most = 100000

// Stream makes messages of bytes that come in any pieces.
type Stream struct {
	wait    []byte
	written int
	bad     bool
}

// New is a stream that nothing was written to.
func New() *Stream {
	return &Stream{}
}

// Write lays b behind what waits.
func (s *Stream) Write(b []byte) bool {
	if s.bad || s.written >= most {
		s.spoil()
		return false
	}
	s.wait = append(s.wait, b...)
	s.written += len(b)
	return true
}

// Next takes the first message off, if it is whole.
func (s *Stream) Next() (m api.Msg, is bool) {
	if len(s.wait) < head {
		return api.Msg{}, false
	}
	follow := int(s.wait[0])<<8 | int(s.wait[1])
	if follow > api.MaxFrame {
		s.spoil()
		return api.Msg{}, false
	}
	end := head + follow
	if len(s.wait) < end {
		return api.Msg{}, false
	}
	m, is = Decode(s.wait[:end])
	if !is {
		s.spoil()
		return api.Msg{}, false
	}
	s.wait = s.wait[end:]
	return m, true
}

// Bad tells whether something was written that no message begins with, or too much.
func (s *Stream) Bad() bool {
	return s.bad
}

// spoil makes a stream bad for good: nothing waits any more.
func (s *Stream) spoil() {
	s.bad = true
	s.wait = nil
}
