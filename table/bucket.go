package table

import "slices"

// entry is a text and what it has.
type entry[V any] struct {
	key   string
	value V
}

// bucket is the entries of some texts, each of them once, in no order that matters.
type bucket[V any] []entry[V]

// find is where a text stands, or a number below 0.
func (b *bucket[V]) find(key string) int {
	return slices.IndexFunc(*b, func(e entry[V]) bool { return e.key == key })
}

// put gives a text something: did it have nothing?
func (b *bucket[V]) put(key string, v V) bool {
	at := b.find(key)
	if at < 0 {
		*b = append(*b, entry[V]{key, v})
		return true
	}
	(*b)[at].value = v
	return false
}

func (b *bucket[V]) get(key string) (V, bool) {
	at := b.find(key)
	if at < 0 {
		var none V
		return none, false
	}
	return (*b)[at].value, true
}

// take takes away what a text has: did it have something?
func (b *bucket[V]) take(key string) bool {
	at := b.find(key)
	if at < 0 {
		return false
	}
	*b = slices.Delete(*b, at, at+1)
	return true
}
