package exec

import (
	"slices"

	"buttery/api"
	"buttery/item"
	"buttery/num"
	"buttery/shard"
)

// maxDigits is how many bytes a value may have that is counted with: the digits of the greatest number.
const maxDigits = 20

// turn is a command with a key, when it is executed, and where; and what its key has, if that is something.
type turn struct {
	s   *shard.Shard
	c   api.Cmd
	env api.Env
	it  api.Item
}

// onNothing is what comes of a command whose key has nothing.
func (t *turn) onNothing() api.Result {
	switch t.c.Op {
	case api.OSet:
		if t.c.CAS != 0 {
			return only(api.SMiss)
		}
		fallthrough
	case api.OAdd:
		return t.storeTold()
	case api.OReplace, api.OAppend, api.OPrepend:
		return only(api.SRefused)
	case api.OIncr, api.ODecr:
		if t.c.Makes {
			return t.storeNumber(t.c.Initial, 0, t.end())
		}
	case api.OMeta:
		if t.c.Makes {
			return t.makeWon()
		}
	}
	return only(api.SMiss)
}

// onIt is what comes of a command whose key has something.
func (t *turn) onIt() api.Result {
	endAnew := func(it *api.Item) { it.Exp = t.end() }
	switch t.c.Op {
	case api.OGat:
		t.change(endAnew)
		fallthrough
	case api.OGet:
		t.change(func(it *api.Item) { it.Seen = true })
		return t.view()
	case api.OTouch:
		t.change(endAnew)
		return only(api.STouched)
	case api.OMeta:
		return t.see()
	case api.OAdd:
		return only(api.SRefused)
	}
	if t.c.CAS != 0 && t.c.CAS != t.it.CAS {
		return only(api.SExists)
	}
	return t.onThatOne()
}

// onThatOne is what comes of a command that asks for a CAS, if its key has the item that it means.
func (t *turn) onThatOne() api.Result {
	switch t.c.Op {
	case api.OSet, api.OReplace:
		return t.storeTold()
	case api.OAppend:
		return t.storeBoth(t.it.Value, t.c.Value)
	case api.OPrepend:
		return t.storeBoth(t.c.Value, t.it.Value)
	case api.OIncr, api.ODecr:
		return t.count()
	case api.OStale:
		t.makeStale()
	case api.ODelete:
		t.s.Remove(t.c.Key)
	}
	return only(api.SDeleted)
}

// storeTold stores what the command tells.
func (t *turn) storeTold() api.Result { return t.store(t.c.Value, t.c.Flags, t.end()) }

// storeBoth stores two values as one, in place of what the key has.
func (t *turn) storeBoth(first, second []byte) api.Result {
	if len(first)+len(second) > api.MaxValue {
		return only(api.SMemory)
	}
	return t.store(slices.Concat(first, second), t.it.Flags, t.it.Exp)
}

// count stores the number that comes next, in place of the one that the key has.
func (t *turn) count() api.Result {
	n, is := num.Decimal(string(t.it.Value))
	if !is || len(t.it.Value) > maxDigits {
		return only(api.SNoNumber)
	}
	if t.c.Op == api.OIncr {
		n += t.c.Delta
	} else {
		n -= min(n, t.c.Delta)
	}
	return t.storeNumber(n, t.it.Flags, t.it.Exp)
}

func (t *turn) storeNumber(n uint64, flags uint32, exp int) api.Result {
	x := t.store([]byte(num.Show(n)), flags, exp)
	if x.Status == api.SStored {
		x.Status, x.Number = api.SNumber, n
	}
	return x
}

// makeWon stores an empty value, which the one who asked for it has won.
func (t *turn) makeWon() api.Result {
	if x := t.store(nil, 0, t.end()); x.Status != api.SStored {
		return only(api.SMiss)
	}
	t.change(func(it *api.Item) { it.Won = true })
	x := t.view()
	x.Won = true
	return x
}

// see is what the key has, and whether the one who asks has won it, or has lost it to another one.
func (t *turn) see() api.Result {
	lost := t.it.Won
	won := t.it.Stale && !lost
	t.change(func(it *api.Item) {
		if t.c.Sets {
			it.Exp = t.end()
		}
		it.Seen = true
		it.Won = won || lost
	})
	x := t.view()
	x.Won, x.Lost = won, lost
	return x
}

// makeStale lets what the key has be won anew.
func (t *turn) makeStale() {
	t.change(func(it *api.Item) {
		it.Stale, it.Won, it.CAS = true, false, t.newCAS()
		if t.c.Sets {
			it.Exp = t.end()
		}
	})
}

// store stores a new item, which is what the key has then, if there is room.
func (t *turn) store(value []byte, flags uint32, exp int) api.Result {
	it := api.Item{Key: t.c.Key, Value: value, Flags: flags, Exp: exp, CAS: t.newCAS(), Sec: t.env.Now, Seq: t.env.Seq}
	switch t.s.Store(it, t.env) {
	case api.OK:
		t.it = it
		return api.Result{Status: api.SStored, CAS: it.CAS}
	case api.ErrLost:
		return only(api.SRefused)
	}
	return only(api.SMemory)
}

// change changes what the key has; its value stays, so that there is always room.
func (t *turn) change(how func(*api.Item)) {
	how(&t.it)
	t.s.Update(t.it)
}

// view is what is told of what the key has.
func (t *turn) view() api.Result {
	it := t.it
	return api.Result{Status: api.SHit, Value: it.Value, Flags: it.Flags, CAS: it.CAS, TTL: item.TTL(it, t.env.Now), Stale: it.Stale}
}

// end is the second that the command's time means.
func (t *turn) end() int { return item.At(t.c.Exp, t.env.Now) }

// newCAS is a command's own, as its number is; one more, since a CAS of 0 asks for none.
func (t *turn) newCAS() uint64 { return t.env.Seq + 1 }
