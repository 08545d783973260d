package shard

import (
	"slices"

	"buttery/api"
	"buttery/item"
	"buttery/slab"
)

// entry is a key's item, and the chunk that it takes. The bytes of its value are never written to: another value comes in their place.
type entry struct {
	it    api.Item
	chunk api.Chunk
}

// own is an item that shares no bytes with another one.
func own(it api.Item) api.Item {
	it.Value = slices.Clone(it.Value)
	return it
}

// living is the entry of a key; nil, if it has none, or had one that did not live, which is dropped.
func (s *Shard) living(key string, env api.Env) *entry {
	e, is := s.entries.Get(key)
	if !is {
		return nil
	}
	if !item.Live(e.it, env) {
		s.drop(key)
		return nil
	}
	return e
}

// makeRoom drops others until an item fits in place of the entry that its key has; that is nil, if it has none.
func (s *Shard) makeRoom(it api.Item, had *entry, env api.Env) api.Errno {
	size, less := item.Size(it), 0
	if had != nil {
		less = slab.Bytes(had.chunk.Class)
	}
search:
	for {
		victim, is := s.order.Victim(it.Key)
		switch {
		case s.memory.Fits(size, less):
			break search
		case !is:
			return api.ErrFull
		case s.living(victim, env) == nil: // it is dropped already
		case had == nil && !s.judge.Admit(it.Key, victim):
			return api.ErrLost
		default:
			s.drop(victim)
		}
	}
	return api.OK
}

// put stores an item that fits, in place of the entry that its key has; that is nil, if it has none.
func (s *Shard) put(it api.Item, had *entry) {
	if had != nil {
		// Its chunk must go first: with the new one it might be more than the budget.
		s.memory.Free(had.chunk)
	} else {
		s.order.Add(it.Key)
	}
	chunk, _ := s.memory.Take(item.Size(it)) // as it fits, there is no error
	s.entries.Put(it.Key, &entry{own(it), chunk})
}

// drop takes a key out as Remove does, and tells of it.
func (s *Shard) drop(key string) {
	s.Remove(key)
	s.drops = append(s.drops, key)
}
