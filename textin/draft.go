package textin

import (
	"cmp"
	"math"

	"buttery/api"
	"buttery/frame"
	"buttery/lined"
	"buttery/num"
)

const noreply = "noreply"

const badDelta = "CLIENT_ERROR invalid numeric delta argument"

// draft is a request whose line is being read.
type draft struct {
	form  api.Form
	cmd   api.Cmd // what all of its commands have; the keys are their own
	size  uint64  // how many bytes the body has
	sized bool    // whether the line tells that
}

// reading keeps what a word says, or tells the fault of one that may not stand there.
type reading func(word string) (fault string)

// read reads the words of a line, and tells its first fault.
func (d *draft) read(words []string) string {
	if len(words) == 0 || !d.begin(words[0]) {
		return lined.NoCommand
	}
	words = words[1:]
	parts := d.parts(words)
	if d.isQuiet(words, len(parts)) {
		d.form.Quiet = true
		words = words[:len(parts)]
	}
	if len(words) != len(parts) {
		return lined.NoCommand
	}
	fault := ""
	for i, read := range parts {
		fault = cmp.Or(fault, read(words[i])) // behind a fault, too: the size of the body must be known
	}
	return fault
}

// begin takes the first word, and tells whether there is such a verb.
func (d *draft) begin(verb string) bool {
	op, is := opOf(verb)
	d.cmd.Op = op
	d.form = api.Form{Dialect: api.DText, Verb: verb, WithCAS: verb == "gets" || verb == "gats"}
	return is
}

// opOf is the kind of command that a verb asks for.
func opOf(verb string) (int, bool) {
	switch verb {
	case "get", "gets":
		return api.OGet, true
	case "gat", "gats":
		return api.OGat, true
	case "set", "cas":
		return api.OSet, true
	case "add":
		return api.OAdd, true
	case "replace":
		return api.OReplace, true
	case "append":
		return api.OAppend, true
	case "prepend":
		return api.OPrepend, true
	case "delete":
		return api.ODelete, true
	case "incr":
		return api.OIncr, true
	case "decr":
		return api.ODecr, true
	case "touch":
		return api.OTouch, true
	case "flush_all":
		return api.OFlush, true
	case "version":
		return api.OVersion, true
	case "quit":
		return api.OQuit, true
	}
	return 0, false
}

// parts tells how each word behind the verb is read: the words are asked only where their number is not fixed.
func (d *draft) parts(words []string) []reading {
	switch d.cmd.Op {
	case api.OGet:
		return d.keys(len(words))
	case api.OGat:
		return append([]reading{d.exp}, d.keys(len(words)-1)...)
	case api.OSet, api.OAdd, api.OReplace, api.OAppend, api.OPrepend:
		return d.storing()
	case api.ODelete:
		return []reading{d.key}
	case api.OIncr, api.ODecr:
		return []reading{d.key, decimal(math.MaxUint64, badDelta, func(n uint64) { d.cmd.Delta = n })}
	case api.OTouch:
		return []reading{d.key, d.exp}
	case api.OFlush:
		if len(words) > 0 && !d.isQuiet(words, 0) {
			return []reading{d.exp}
		}
	}
	return nil
}

// keys reads so many keys, but one at least: without any there is a word too few.
func (d *draft) keys(many int) []reading {
	var parts []reading
	for range max(many, 1) {
		parts = append(parts, d.key)
	}
	return parts
}

func (d *draft) storing() []reading {
	parts := []reading{
		d.key,
		decimal(math.MaxUint32, lined.BadLine, func(n uint64) { d.cmd.Flags = uint32(n) }),
		d.exp,
		decimal(math.MaxUint64, lined.BadLine, func(n uint64) { d.size, d.sized = n, true }),
	}
	if d.form.Verb == "cas" {
		parts = append(parts, decimal(math.MaxUint64, lined.BadLine, func(n uint64) { d.cmd.CAS = n }))
	}
	return parts
}

// isQuiet tells whether behind so many words there is just the one that asks for no answer.
func (d *draft) isQuiet(words []string, many int) bool {
	switch d.cmd.Op {
	case api.OGet, api.OGat, api.OVersion, api.OQuit:
		return false
	}
	return len(words) == many+1 && words[many] == noreply
}

func (d *draft) key(word string) string {
	d.form.Keys = append(d.form.Keys, word)
	if !frame.Key(word) || len(d.form.Keys) > api.MaxKeys {
		return lined.BadLine
	}
	return ""
}

func (d *draft) exp(word string) string {
	n, is := num.Signed(word)
	if !is {
		return lined.BadLine
	}
	d.cmd.Exp = n
	return ""
}

// decimal reads a number up to the greatest that may be there.
func decimal(greatest uint64, fault string, keep func(uint64)) reading {
	return func(word string) string {
		n, is := num.Decimal(word)
		if !is || n > greatest {
			return fault
		}
		keep(n)
		return ""
	}
}

// request is what all that was read asks for: one command for each key, and one where there are none.
func (d *draft) request() api.Request {
	var cmds []api.Cmd
	for _, key := range d.form.Keys {
		cmd := d.cmd
		cmd.Key = key
		cmds = append(cmds, cmd)
	}
	if len(cmds) == 0 {
		cmds = append(cmds, d.cmd)
	}
	return api.Request{Cmds: cmds, Form: d.form}
}
