package binin

import "buttery/api"

// The codes, from 0 on. Those of a get by a key differ in their answers alone.
const (
	get = iota
	set
	add
	replace
	remove
	incr
	decr
	quit
	flush
	getQuiet
	noop
	version
	getKey
	getKeyQuiet
	appendValue
	prependValue
	_
	setQuiet
	addQuiet
	replaceQuiet
	removeQuiet
	incrQuiet
	decrQuiet
	quitQuiet
	flushQuiet
	appendQuiet
	prependQuiet
	_
	touch
	gat
	gatQuiet
)

// opOf is the kind of command that a code asks for.
func opOf(code byte) (int, bool) {
	switch code {
	case get, getQuiet, getKey, getKeyQuiet:
		return api.OGet, true
	case set, setQuiet:
		return api.OSet, true
	case add, addQuiet:
		return api.OAdd, true
	case replace, replaceQuiet:
		return api.OReplace, true
	case remove, removeQuiet:
		return api.ODelete, true
	case incr, incrQuiet:
		return api.OIncr, true
	case decr, decrQuiet:
		return api.ODecr, true
	case quit, quitQuiet:
		return api.OQuit, true
	case flush, flushQuiet:
		return api.OFlush, true
	case noop:
		return api.ONoop, true
	case version:
		return api.OVersion, true
	case appendValue, appendQuiet:
		return api.OAppend, true
	case prependValue, prependQuiet:
		return api.OPrepend, true
	case touch:
		return api.OTouch, true
	case gat, gatQuiet:
		return api.OGat, true
	}
	return 0, false
}

// isQuiet tells whether a code asks to be answered only where something must be said.
func isQuiet(code byte) bool {
	switch code {
	case getQuiet, getKeyQuiet, setQuiet, addQuiet, replaceQuiet, removeQuiet, incrQuiet, decrQuiet, quitQuiet, flushQuiet, appendQuiet, prependQuiet, gatQuiet:
		return true
	}
	return false
}
