package exec

import (
	"bytes"
	"fmt"
	"maps"
	"math/rand/v2"
	"reflect"
	"slices"
	"strconv"
	"strings"
	"testing"

	"buttery/api"
	"buttery/shard"
)

// keeper is what a command is executed on: a shard, or a plain map.
type keeper interface {
	Look(key string, env api.Env) (api.Item, bool)
	Use(key string)
	Store(it api.Item, env api.Env) api.Errno
	Update(it api.Item) api.Errno
	Remove(key string) bool
}

// plain is a map of keys that has room for all for which there are chunks.
type plain map[string]api.Item

func (p plain) Look(key string, env api.Env) (api.Item, bool) {
	it, had := p[key]
	ended := it.Exp != 0 && env.Now >= it.Exp
	flushes := env.Flush != 0 && env.Now >= env.Flush
	elder := it.Sec < env.Flush || it.Sec == env.Flush && it.Seq < env.FlushSeq
	if !had || ended || flushes && elder {
		delete(p, key)
		return api.Item{}, false
	}
	return it, true
}

func (p plain) Use(string) {}

func (p plain) Store(it api.Item, _ api.Env) api.Errno {
	if 50+len(it.Key)+len(it.Value) > 2048 {
		return api.ErrLong
	}
	return p.Update(it)
}

func (p plain) Update(it api.Item) api.Errno {
	it.Value = bytes.Clone(it.Value)
	p[it.Key] = it
	return api.OK
}

func (p plain) Remove(key string) bool {
	delete(p, key)
	return true
}

func (p plain) all() []api.Item {
	var l []api.Item
	for _, key := range slices.Sorted(maps.Keys(p)) {
		l = append(l, p[key])
	}
	return l
}

// second is P10.2, in other words.
func second(exp, now int) int {
	now = max(now, 1)
	if exp == 0 || exp > 2592000 {
		return exp
	}
	return now + max(exp, 0)
}

// told is the view of an item.
func told(it api.Item, now int) api.Result {
	ttl := -1
	if it.Exp != 0 {
		ttl = max(it.Exp-now, 0)
	}
	return api.Result{Value: bytes.Clone(it.Value), Flags: it.Flags, CAS: it.CAS, TTL: ttl, Stale: it.Stale}
}

// stored stores a value, and answers what comes of it.
func stored(k keeper, c api.Cmd, env api.Env, value string, flags uint32, exp int) api.Result {
	e := k.Store(api.Item{Key: c.Key, Value: []byte(value), Flags: flags, Exp: exp, CAS: env.Seq + 1, Sec: env.Now, Seq: env.Seq}, env)
	status := map[api.Errno]int{api.OK: api.SStored, api.ErrLost: api.SRefused, api.ErrFull: api.SMemory, api.ErrLong: api.SMemory}[e]
	if status != api.SStored {
		return api.Result{Status: status}
	}
	return api.Result{Status: status, CAS: env.Seq + 1}
}

// ask is what must come of a command: the words of P12.2 to P12.7, one behind the other.
func ask(k keeper, c api.Cmd, env api.Env) api.Result {
	const miss, refused, exists = api.SMiss, api.SRefused, api.SExists
	if c.Op < api.OGet || c.Op > api.OMeta {
		if c.Op == api.OVersion {
			return api.Result{Status: api.SVersion}
		}
		return api.Result{Status: api.SOK}
	}
	it, is := k.Look(c.Key, env)
	k.Use(c.Key)
	at := second(c.Exp, env.Now)
	other := is && c.CAS != 0 && c.CAS != it.CAS
	switch c.Op {
	case api.OGet, api.OGat, api.OTouch:
		return askTimes(k, c, env, it, is)
	case api.OIncr, api.ODecr:
		return askNumber(k, c, env, it, is)
	case api.OMeta:
		return askMeta(k, c, env, it, is)
	case api.OSet:
		if !is && c.CAS != 0 {
			return api.Result{Status: miss}
		}
	case api.OAdd:
		if is {
			return api.Result{Status: refused}
		}
	case api.OReplace, api.OAppend, api.OPrepend:
		if !is {
			return api.Result{Status: refused}
		}
	case api.ODelete, api.OStale:
		if !is {
			return api.Result{Status: miss}
		}
	}
	if other {
		return api.Result{Status: exists}
	}
	value, flags, exp := string(c.Value), c.Flags, at
	switch c.Op {
	case api.OAppend:
		value, flags, exp = string(it.Value)+value, it.Flags, it.Exp
	case api.OPrepend:
		value, flags, exp = value+string(it.Value), it.Flags, it.Exp
	case api.ODelete:
		k.Remove(c.Key)
		return api.Result{Status: api.SDeleted}
	case api.OStale:
		it.Stale, it.Won, it.CAS = true, false, env.Seq+1
		if c.Sets {
			it.Exp = at
		}
		k.Update(it)
		return api.Result{Status: api.SDeleted}
	}
	if (c.Op == api.OAppend || c.Op == api.OPrepend) && len(value) > 1000 {
		return api.Result{Status: api.SMemory}
	}
	return stored(k, c, env, value, flags, exp)
}

func askTimes(k keeper, c api.Cmd, env api.Env, it api.Item, is bool) api.Result {
	if !is {
		return api.Result{Status: api.SMiss}
	}
	if c.Op != api.OGet {
		it.Exp = second(c.Exp, env.Now)
	}
	if c.Op != api.OTouch {
		it.Seen = true
	}
	k.Update(it)
	if c.Op == api.OTouch {
		return api.Result{Status: api.STouched}
	}
	return told(it, env.Now)
}

func askNumber(k keeper, c api.Cmd, env api.Env, it api.Item, is bool) api.Result {
	n, flags, exp := c.Initial, uint32(0), second(c.Exp, env.Now)
	if !is && !c.Makes {
		return api.Result{Status: api.SMiss}
	}
	if is {
		if c.CAS != 0 && c.CAS != it.CAS {
			return api.Result{Status: api.SExists}
		}
		had, err := strconv.ParseUint(string(it.Value), 10, 64)
		if err != nil || len(it.Value) > 20 {
			return api.Result{Status: api.SNoNumber}
		}
		flags, exp = it.Flags, it.Exp
		n = had + c.Delta
		if c.Op == api.ODecr {
			n = 0
			if had > c.Delta {
				n = had - c.Delta
			}
		}
	}
	x := stored(k, c, env, strconv.FormatUint(n, 10), flags, exp)
	if x.Status == api.SStored {
		x.Status, x.Number = api.SNumber, n
	}
	return x
}

func askMeta(k keeper, c api.Cmd, env api.Env, it api.Item, is bool) api.Result {
	at := second(c.Exp, env.Now)
	if !is {
		if !c.Makes || stored(k, c, env, "", 0, at).Status != api.SStored {
			return api.Result{Status: api.SMiss}
		}
		it = api.Item{Key: c.Key, Exp: at, CAS: env.Seq + 1, Sec: env.Now, Seq: env.Seq, Won: true}
		k.Update(it)
		x := told(it, env.Now)
		x.Won = true
		return x
	}
	if c.Sets {
		it.Exp = at
	}
	it.Seen = true
	x := told(it, env.Now)
	if it.Won {
		x.Lost = true
	} else if it.Stale {
		x.Won, it.Won = true, true
	}
	k.Update(it)
	return x
}

// step is a command, and by how much the clock goes on ahead of it.
type step struct {
	c     api.Cmd
	later int
	flush bool // all that is elder ends with it
}

func (st step) String() string {
	c := st.c
	c.Value = nil
	return fmt.Sprintf("%+v of %d bytes %.20q, %d later, flush %t", c, len(st.c.Value), st.c.Value, st.later, st.flush)
}

// pair is a shard, and what it is held against: a plain map, if it has room for all, or else a twin.
type pair struct {
	t    *testing.T
	s    *shard.Shard
	k    keeper
	env  api.Env
	twin *shard.Shard // nil, if k is a plain map
}

func withPlain(t *testing.T) *pair {
	return &pair{t: t, s: shard.New(1, 1<<20, 3), k: plain{}, env: api.Env{Now: 1}}
}

func withTwin(t *testing.T, budget, protect int) *pair {
	twin := shard.New(1, budget, protect)
	return &pair{t, shard.New(1, budget, protect), twin, api.Env{Now: 1}, twin}
}

// do does a step on both, and answers false, if they differ then.
func (p *pair) do(st step) bool {
	p.t.Helper()
	p.env.Now += st.later
	if st.flush {
		p.env.Flush, p.env.FlushSeq = p.env.Now, p.env.Seq
	}
	x, want := Do(p.s, st.c, p.env), ask(p.k, st.c, p.env)
	p.env.Seq++
	if !sameResult(x, want) {
		p.t.Errorf("%v: %+v; want %+v", st, x, want)
		return false
	}
	return p.sameItems(st)
}

func (p *pair) sameItems(st step) bool {
	p.t.Helper()
	has := slices.Collect(p.s.All())
	var want []api.Item
	if p.twin == nil {
		want = p.k.(plain).all()
	} else {
		want = slices.Collect(p.twin.All())
		if drops, wanted := p.s.Drops(), p.twin.Drops(); !slices.Equal(drops, wanted) {
			p.t.Errorf("%v: dropped %q; want %q", st, drops, wanted)
			return false
		}
	}
	if !slices.EqualFunc(has, want, sameItem) {
		p.t.Errorf("%v: has %+v; want %+v", st, has, want)
		return false
	}
	return true
}

func sameResult(a, b api.Result) bool {
	same := bytes.Equal(a.Value, b.Value)
	a.Value, b.Value = nil, nil
	return same && reflect.DeepEqual(a, b)
}

func sameItem(a, b api.Item) bool {
	same := bytes.Equal(a.Value, b.Value)
	a.Value, b.Value = nil, nil
	return same && a.Key == b.Key && reflect.DeepEqual(a, b)
}

// menu are the steps of which short rows are made, all of them of one key.
func menu() []step {
	var l []step
	add := func(cmds ...api.Cmd) {
		for _, c := range cmds {
			c.Key = "k"
			l = append(l, step{c: c, later: 1})
		}
	}
	add(api.Cmd{Op: api.OGet, CAS: 9}, api.Cmd{Op: api.OGat, Exp: 2}, api.Cmd{Op: api.OGat, Exp: -1}, api.Cmd{Op: api.OTouch}, api.Cmd{Op: api.OTouch, Exp: 1})
	add(api.Cmd{Op: api.OSet, Value: []byte("12"), Flags: 3}, api.Cmd{Op: api.OSet, Value: []byte("x"), Exp: 2, CAS: 1}, api.Cmd{Op: api.OAdd, Value: []byte("7"), Exp: 9, CAS: 2})
	add(api.Cmd{Op: api.OReplace, Value: []byte("0"), Flags: 5}, api.Cmd{Op: api.OAppend, Value: []byte("3")}, api.Cmd{Op: api.OPrepend, Value: []byte("4"), CAS: 2})
	add(api.Cmd{Op: api.ODelete}, api.Cmd{Op: api.ODelete, CAS: 1}, api.Cmd{Op: api.OStale, Exp: 1}, api.Cmd{Op: api.OStale, Sets: true, Exp: 3}, api.Cmd{Op: api.OStale, CAS: 1})
	add(api.Cmd{Op: api.OIncr, Delta: 5}, api.Cmd{Op: api.ODecr, Delta: 9, CAS: 2}, api.Cmd{Op: api.OIncr, Delta: 2, Makes: true, Initial: 99, Exp: 2}, api.Cmd{Op: api.ODecr, Delta: 1, Makes: true, Initial: 1, CAS: 3})
	add(api.Cmd{Op: api.OMeta, Exp: 1, CAS: 9}, api.Cmd{Op: api.OMeta, Makes: true}, api.Cmd{Op: api.OMeta, Makes: true, Sets: true, Exp: 2}, api.Cmd{Op: api.OMeta, Sets: true, Exp: 5})
	add(api.Cmd{Op: api.ONoop}, api.Cmd{Op: api.OFlush})
	return append(l, step{c: api.Cmd{Op: api.OGet, Key: "k"}, flush: true}, step{c: api.Cmd{Op: api.OAdd, Key: "k", Value: []byte("8")}, flush: true})
}

// P12.2 to P12.8: all rows of three commands, behind nothing, something, and something stale.
func TestShortRows(t *testing.T) {
	all := menu()
	set := step{c: api.Cmd{Op: api.OSet, Key: "k", Value: []byte("5"), Flags: 1}}
	stale := step{c: api.Cmd{Op: api.OStale, Key: "k"}}
	for _, begin := range [][]step{nil, {set}, {set, stale}} {
		for i := range len(all) * len(all) * len(all) {
			p := withPlain(t)
			row := append(slices.Clone(begin), all[i%len(all)], all[i/len(all)%len(all)], all[i/len(all)/len(all)])
			for _, st := range row {
				if !p.do(st) {
					t.Fatalf("in the row %v", row)
				}
			}
		}
	}
}

// anyStep is a step of one of some keys, in which all may be told, whether the kind asks for it or not.
func anyStep(r *rand.Rand, keys int, seq uint64) step {
	few := func(l ...int) int { return l[r.IntN(len(l))] }
	value := strings.Repeat(strconv.Itoa(r.IntN(10)), few(0, 1, 1, 2, 5, 20, 21, 60, 200, 500, 999, 1001, 2100))
	if r.IntN(10) == 0 {
		value = "x" + value
	}
	c := api.Cmd{
		Op:      r.IntN(api.OQuit+4) - 1,
		Key:     "key" + strconv.Itoa(r.IntN(keys)),
		Value:   []byte(value),
		Flags:   uint32(r.IntN(4)),
		Exp:     few(0, 0, 0, 0, -1, 3, 10, 50, 2592000, 2592001),
		Delta:   uint64(few(0, 1, 10, 1000, -1)),
		Initial: uint64(few(0, 7, 1000000, -1)),
		Makes:   r.IntN(2) == 0,
		Sets:    r.IntN(4) == 0,
	}
	if r.IntN(3) == 0 {
		c.CAS = seq - min(seq, uint64(r.IntN(2*keys)))
	}
	return step{c: c, later: few(0, 0, 0, 0, 1, 5), flush: r.IntN(200) == 0}
}

// P12.1 to P12.8: long rows of any commands, where there is room for all.
func TestLongRows(t *testing.T) {
	r := rand.New(rand.NewPCG(12, 1))
	for range 40 {
		p := withPlain(t)
		for range 1000 {
			if !p.do(anyStep(r, 4, p.env.Seq)) {
				return
			}
		}
	}
}

// P12.1 to P12.8: likewise, where there is little room: a twin is told the same, so that what is used, refused and dropped must be the same, too.
func TestLongRowsWithLittleRoom(t *testing.T) {
	r := rand.New(rand.NewPCG(12, 2))
	for _, budget := range []int{0, 64, 128, 300, 1000, 2048, 5000} {
		for _, protect := range []int{-1, 0, 1, 3} {
			p := withTwin(t, budget, protect)
			for range 2000 {
				if !p.do(anyStep(r, 12, p.env.Seq)) {
					return
				}
			}
		}
	}
}
