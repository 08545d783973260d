package shard

import (
	"bytes"
	"maps"
	"slices"
	"strconv"
	"testing"

	"buttery/api"
	"buttery/tiny"
)

// plain is what a shard is held against: a map, two rows that are gone through from end to end, and what the chunks take, reckoned anew each time.
type plain struct {
	budget, protect  int
	has              map[string]api.Item
	trial, protected []string
	judge            *tiny.Judge
	drops            []string
}

func newPlain(seed uint64, budget, protect int) *plain {
	return &plain{budget: budget, protect: protect, has: map[string]api.Item{}, judge: tiny.New(seed)}
}

// takes is how many bytes the chunk of an item has; 0, if there is none for it.
func takes(it api.Item) int {
	for _, many := range []int{64, 128, 256, 512, 1024, 2048} {
		if 50+len(it.Key)+len(it.Value) <= many {
			return many
		}
	}
	return 0
}

// lives is P10.4, in other words.
func lives(it api.Item, env api.Env) bool {
	ended := it.Exp != 0 && env.Now >= it.Exp
	flushes := env.Flush != 0 && env.Now >= env.Flush
	elder := it.Sec < env.Flush || it.Sec == env.Flush && it.Seq < env.FlushSeq
	return !ended && !(flushes && elder)
}

// copied is an item whose value is its own.
func copied(it api.Item) api.Item {
	it.Value = bytes.Clone(it.Value)
	return it
}

func (p *plain) used() int {
	sum := 0
	for _, it := range p.has {
		sum += takes(it)
	}
	return sum
}

func (p *plain) all() []api.Item {
	var l []api.Item
	for _, key := range slices.Sorted(maps.Keys(p.has)) {
		l = append(l, p.has[key])
	}
	return l
}

func without(keys []string, key string) []string {
	return slices.DeleteFunc(slices.Clone(keys), func(k string) bool { return k == key })
}

func (p *plain) remove(key string) bool {
	_, had := p.has[key]
	delete(p.has, key)
	p.trial, p.protected = without(p.trial, key), without(p.protected, key)
	return had
}

func (p *plain) drop(key string) {
	p.remove(key)
	p.drops = append(p.drops, key)
}

func (p *plain) look(key string, env api.Env) (api.Item, bool) {
	it, had := p.has[key]
	if had && !lives(it, env) {
		p.drop(key)
		return api.Item{}, false
	}
	return it, had
}

func (p *plain) use(key string) {
	p.judge.Touch(key)
	if _, had := p.has[key]; !had {
		return
	}
	p.trial, p.protected = without(p.trial, key), append(without(p.protected, key), key)
	if len(p.protected) > max(p.protect, 0) {
		p.trial = append(p.trial, p.protected[0])
		p.protected = p.protected[1:]
	}
}

func (p *plain) store(it api.Item, env api.Env) api.Errno {
	if takes(it) == 0 {
		return api.ErrLong
	}
	old, had := p.look(it.Key, env)
	less := 0
	if had {
		less = takes(old)
	}
	for p.used()-less+takes(it) > p.budget {
		others := without(slices.Concat(p.trial, p.protected), it.Key)
		if len(others) == 0 {
			return api.ErrFull
		}
		if lives(p.has[others[0]], env) && !had && p.judge.Worth(it.Key) <= p.judge.Worth(others[0]) {
			return api.ErrLost
		}
		p.drop(others[0])
	}
	if !had {
		p.trial = append(p.trial, it.Key)
	}
	p.has[it.Key] = copied(it)
	return api.OK
}

func (p *plain) update(it api.Item) api.Errno {
	old, had := p.has[it.Key]
	if !had {
		return api.ErrNone
	}
	if len(old.Value) != len(it.Value) {
		return api.ErrArg
	}
	p.has[it.Key] = copied(it)
	return api.OK
}

func (p *plain) takeDrops() []string {
	drops := p.drops
	p.drops = nil
	return drops
}

// both are a shard and what it is held against, of which the same is asked.
type both struct {
	t *testing.T
	s *Shard
	p *plain
}

func newBoth(t *testing.T, seed uint64, budget, protect int) *both {
	return &both{t, New(seed, budget, protect), newPlain(seed, budget, protect)}
}

// kinds of steps.
const (
	aStore = iota
	aLook
	aUse
	anUpdate
	aRemove
	manyKinds
)

// step is one call: of an item, or of its key alone.
type step struct {
	kind int
	it   api.Item
	env  api.Env
}

func (st step) String() string {
	return []string{"Store", "Look", "Use", "Update", "Remove"}[st.kind] + " of " + st.it.Key + ", value " + strconv.Itoa(len(st.it.Value)) + ", end " + strconv.Itoa(st.it.Exp) + ", at " + strconv.Itoa(st.env.Now) + ", flush " + strconv.Itoa(st.env.Flush)
}

// do does a step, and answers false, if something was answered otherwise, or P11.5 does not hold.
func (b *both) do(st step) bool {
	b.t.Helper()
	ahead, usedAhead := itemsByKey(b.s), b.s.Used()
	answered, want, stored := b.ask(st)
	drops, wantDrops := b.s.Drops(), b.p.takeDrops()
	switch {
	case answered != want:
		b.t.Errorf("%v: answered %s; want %s", st, answered, want)
	case !slices.Equal(drops, wantDrops):
		b.t.Errorf("%v: dropped %q; want %q", st, drops, wantDrops)
	default:
		return b.holds(st) && b.follows(st, stored, drops, ahead, usedAhead)
	}
	return false
}

// ask answers what was answered by both, and whether something was stored.
func (b *both) ask(st step) (answered, want string, stored bool) {
	switch st.kind {
	case aStore:
		e := b.s.Store(st.it, st.env)
		return strconv.Itoa(int(e)), strconv.Itoa(int(b.p.store(st.it, st.env))), e == api.OK
	case aLook:
		it, is := b.s.Look(st.it.Key, st.env)
		wantIt, wantIs := b.p.look(st.it.Key, st.env)
		return shown(it) + strconv.FormatBool(is), shown(wantIt) + strconv.FormatBool(wantIs), false
	case aUse:
		b.s.Use(st.it.Key)
		b.p.use(st.it.Key)
	case anUpdate:
		return strconv.Itoa(int(b.s.Update(st.it))), strconv.Itoa(int(b.p.update(st.it))), false
	case aRemove:
		return strconv.FormatBool(b.s.Remove(st.it.Key)), strconv.FormatBool(b.p.remove(st.it.Key)), false
	}
	return "", "", false
}

// holds tells whether the shard has what it must.
func (b *both) holds(st step) bool {
	b.t.Helper()
	if told, want := slices.Collect(b.s.All()), b.p.all(); !slices.EqualFunc(told, want, sameItem) {
		b.t.Errorf("%v: has %s; want %s", st, showAll(told), showAll(want))
		return false
	}
	if b.s.Used() != b.p.used() || b.s.Len() != len(b.p.has) {
		b.t.Errorf("%v: Used %d, Len %d; want %d, %d", st, b.s.Used(), b.s.Len(), b.p.used(), len(b.p.has))
		return false
	}
	return true
}

// follows is P11.5, by what the shard itself told ahead of a step and tells behind it.
func (b *both) follows(st step, stored bool, drops []string, ahead map[string]api.Item, usedAhead int) bool {
	b.t.Helper()
	if used := b.s.Used(); used < 0 || used > max(b.p.budget, 0) {
		b.t.Errorf("%v: Used %d of %d", st, used, b.p.budget)
		return false
	}
	old, had := ahead[st.it.Key]
	if stored {
		if behind := itemsByKey(b.s); !sameItem(behind[st.it.Key], st.it) || slices.Contains(drops, st.it.Key) != (had && !lives(old, st.env)) {
			b.t.Errorf("%v: has %s, dropped %q", st, shown(behind[st.it.Key]), drops)
			return false
		}
	}
	for _, key := range drops {
		needs := st.kind == aStore && key != st.it.Key && usedAhead-takes(old)*one(had)+takes(st.it) > b.p.budget
		if it, had := ahead[key]; !had || lives(it, st.env) && !needs {
			b.t.Errorf("%v: dropped %q, which lived", st, key)
			return false
		}
	}
	return true
}

func one(is bool) int {
	if is {
		return 1
	}
	return 0
}

func itemsByKey(s *Shard) map[string]api.Item {
	m := map[string]api.Item{}
	for it := range s.All() {
		m[it.Key] = it
	}
	return m
}
