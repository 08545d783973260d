package metain

import (
	"cmp"
	"math"
	"strings"

	"buttery/api"
	"buttery/base"
	"buttery/frame"
	"buttery/lined"
	"buttery/num"
)

// answered are the letters of the flags of which an answer tells something.
const answered = "bcfkOstv"

// draft is a request whose line is being read.
type draft struct {
	verb verb
	form api.Form
	cmd  api.Cmd
	seen string // the letters of the flags that were read
	said lined.Said
}

func begin(word string, v verb) draft {
	d := draft{verb: v, form: api.Form{Dialect: api.DMeta, Verb: word}, cmd: api.Cmd{Op: v.op}}
	if v.op == api.OIncr {
		d.cmd.Delta = 1
	}
	return d
}

// fail keeps the first fault.
func (d *draft) fail(fault string) { d.said.Fault = cmp.Or(d.said.Fault, fault) }

func (d *draft) takeFlags(flags []string) string {
	if len(flags) > maxFlags {
		return manyFlags
	}
	for _, flag := range flags {
		if fault := d.takeFlag(flag[:1], flag[1:]); fault != "" {
			return fault
		}
	}
	return ""
}

func (d *draft) takeFlag(letter, token string) string {
	bare := token == "" && strings.Contains(d.verb.bare, letter)
	if !bare && !strings.Contains(d.verb.tokens, letter) {
		return noFlag
	}
	if strings.Contains(d.seen, letter) {
		return twice
	}
	d.seen += letter
	if bare {
		d.mark(letter)
	} else if !d.takeToken(letter, token) {
		return badToken
	}
	if strings.Contains(answered, letter) {
		d.form.Flags += letter
		d.form.Tokens = append(d.form.Tokens, token)
	}
	return ""
}

// mark takes a flag without a token.
func (d *draft) mark(letter string) {
	switch letter {
	case "b":
		d.form.Base64 = true
	case "q":
		d.form.Quiet = true
	case "I":
		d.cmd.Op = api.OStale
	}
}

// takeToken keeps what a flag says, and tells whether it may say so.
func (d *draft) takeToken(letter, token string) (is bool) {
	switch letter {
	case "O":
		return token != "" && len(token) <= api.MaxOpaque
	case "M":
		d.cmd.Op, is = modeOf(d.form.Verb, token)
	case "F":
		n, whole := num.Decimal(token)
		d.cmd.Flags = uint32(n)
		return whole && n <= math.MaxUint32
	case "C":
		d.cmd.CAS, is = num.Decimal(token)
	case "D":
		d.cmd.Delta, is = num.Decimal(token)
	case "J":
		d.cmd.Initial, is = num.Decimal(token)
	case "T":
		d.cmd.Sets = d.verb.op != api.OSet // what an ms stores has its Exp without that
		d.cmd.Exp, is = num.Signed(token)
	case "N":
		d.cmd.Makes = true
		d.cmd.Exp, is = num.Signed(token)
	}
	return is
}

// modeOf is the kind of command that a verb asks for with M.
func modeOf(verb, mode string) (int, bool) {
	switch verb + mode {
	case "msS":
		return api.OSet, true
	case "msE":
		return api.OAdd, true
	case "msA":
		return api.OAppend, true
	case "msP":
		return api.OPrepend, true
	case "msR":
		return api.OReplace, true
	case "maI", "ma+":
		return api.OIncr, true
	case "maD", "ma-":
		return api.ODecr, true
	}
	return 0, false
}

// takeKey takes the key as it was told: what it stands for is the command's.
func (d *draft) takeKey(word string) string {
	d.form.Keys = []string{word}
	d.cmd.Key = word
	if !d.form.Base64 {
		return badUnless(frame.Key(word))
	}
	b, e := base.Decode(word)
	d.cmd.Key = string(b)
	return badUnless(e == api.OK && frame.Keyed(d.cmd.Key))
}

func (d *draft) takeSize(word string) string {
	d.said.Size, d.said.Sized = num.Decimal(word)
	return badUnless(d.said.Sized)
}

func badUnless(is bool) string {
	if is {
		return ""
	}
	return lined.BadLine
}
