// Package lined reads requests that are a line of words, some of them with a body behind: what the text and the meta dialect have in common.
package lined

import (
	"buttery/api"
	"buttery/frame"
	"buttery/num"
)

const (
	feed = '\n'
	end  = "\r\n"
)

// What both dialects answer to what is no request.
const (
	NoCommand = "ERROR"
	BadLine   = "CLIENT_ERROR bad command line format"

	badChunk = "CLIENT_ERROR bad data chunk"
	longLine = "CLIENT_ERROR line too long"
	tooLarge = "SERVER_ERROR object too large for cache"
)

// maxSkip bounds what is passed over for a number that a client tells: behind a greater one its next line is read at once.
const maxSkip = 1 << 30

// Said is what the words of a line say.
type Said struct {
	Req   api.Request // has one command, if there is a body
	Fault string      // why the words are no request, if they are none
	Size  uint64      // how many bytes the body has
	Sized bool        // whether the line tells that
}

// Parse is what the first bytes of a connection are, if the words of its lines are read so.
func Parse(b []byte, read func(words []string) Said) api.Step {
	line, used, e := frame.Line(b)
	switch e {
	case api.ErrMore:
		return api.Step{E: api.ErrMore}
	case api.ErrLong:
		step := refuse(longLine, used)
		step.Line = b[used-1] != feed
		return step
	}
	said := read(gather(line))
	if fault := said.fault(); fault != "" {
		step := refuse(fault, used)
		step.Skip = said.skip()
		return step
	}
	return said.finish(b[used:], used)
}

func gather(line string) []string {
	var words []string
	for word := range num.Words(line) {
		words = append(words, word)
	}
	return words
}

// refuse is the answer to so many bytes that are no request.
func refuse(fault string, used int) api.Step {
	return api.Step{Reply: fault + end, Used: used, E: api.ErrForm}
}

// fault is what the words have told, and, behind all else, that the body is too large.
func (s Said) fault() string {
	if s.Fault == "" && s.Sized && s.Size > api.MaxValue {
		return tooLarge
	}
	return s.Fault
}

// skip is how many bytes the body of a refused line takes.
func (s Said) skip() int {
	if !s.Sized || s.Size > maxSkip {
		return 0
	}
	return int(s.Size) + len(end)
}

// finish is the request of a line that took so many bytes, with its body out of what is behind it.
func (s Said) finish(behind []byte, used int) api.Step {
	if !s.Sized {
		return api.Step{Req: s.Req, Used: used}
	}
	value, taken, e := frame.Body(behind, int(s.Size))
	switch e {
	case api.ErrMore:
		return api.Step{E: api.ErrMore}
	case api.ErrForm:
		step := refuse(badChunk, used+taken)
		step.Line = true
		return step
	}
	s.Req.Cmds[0].Value = value
	return api.Step{Req: s.Req, Used: used + taken}
}
