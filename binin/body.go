package binin

import (
	"bytes"
	"math"

	"buttery/api"
	"buttery/frame"
	"buttery/num"
)

// neverMakes is the end by which a client says that a number that is not there is not to be made.
const neverMakes = math.MaxUint32

// request is what a head and its body ask for, or the status that tells why they ask for nothing.
func (h head) request(body []byte) (api.Request, uint16) {
	op, is := opOf(h.code)
	if !is {
		return api.Request{}, noCode
	}
	if h.extras+h.key > len(body) {
		return api.Request{}, badParts
	}
	extras, key, value := h.cut(body)
	cmd := api.Cmd{Op: op, Key: string(key), Value: bytes.Clone(value), CAS: h.cas}
	if !readExtras(&cmd, extras) || !keyFits(cmd) || !valueFits(cmd) {
		return api.Request{}, badParts
	}
	if len(value) > api.MaxValue {
		return api.Request{}, largeValue
	}
	return api.Request{Cmds: []api.Cmd{cmd}, Form: h.form(cmd.Key)}, sound
}

// cut parts a body that has as many bytes as the head says, or more.
func (h head) cut(body []byte) (extras, key, value []byte) {
	at, end := h.extras+h.key, len(body)
	return body[:h.extras:h.extras], body[h.extras:at:at], body[at:end:end]
}

// readExtras keeps what the extras say, and tells whether these are as many as its kind of command has.
func readExtras(cmd *api.Cmd, extras []byte) bool {
	switch cmd.Op {
	case api.OSet, api.OAdd, api.OReplace:
		return readStoring(cmd, extras)
	case api.OIncr, api.ODecr:
		return readCounting(cmd, extras)
	case api.OTouch, api.OGat:
		return readExp(cmd, extras)
	case api.OFlush:
		return len(extras) == 0 || readExp(cmd, extras)
	}
	return len(extras) == 0
}

func readStoring(cmd *api.Cmd, extras []byte) bool {
	if len(extras) != 8 {
		return false
	}
	cmd.Flags = uint32(num.Get(extras[:4:4]))
	return readExp(cmd, extras[4:8:8])
}

func readCounting(cmd *api.Cmd, extras []byte) bool {
	if len(extras) != 20 {
		return false
	}
	cmd.Delta = num.Get(extras[:8:8])
	cmd.Initial = num.Get(extras[8:16:16])
	end := extras[16:20:20]
	if num.Get(end) == neverMakes {
		return true
	}
	cmd.Makes = true
	return readExp(cmd, end)
}

func readExp(cmd *api.Cmd, extras []byte) bool {
	if len(extras) != 4 {
		return false
	}
	cmd.Exp = int(num.Get(extras))
	return true
}

// keyFits tells whether there is a key that may be, or none where there must be none.
func keyFits(cmd api.Cmd) bool {
	switch cmd.Op {
	case api.OQuit, api.OFlush, api.ONoop, api.OVersion:
		return cmd.Key == ""
	}
	return frame.Keyed(cmd.Key)
}

// valueFits tells whether there is no value but where there may be one.
func valueFits(cmd api.Cmd) bool {
	switch cmd.Op {
	case api.OSet, api.OAdd, api.OReplace, api.OAppend, api.OPrepend:
		return true
	}
	return len(cmd.Value) == 0
}

func (h head) form(key string) api.Form {
	f := api.Form{Dialect: api.DBinary, Code: int(h.code), Opaque: h.opaque, Quiet: isQuiet(h.code)}
	if key != "" {
		f.Keys = []string{key}
	}
	return f
}
