package exec

import (
	"bytes"
	"fmt"
	"math"
	"slices"
	"strings"
	"testing"

	"buttery/api"
	"buttery/shard"
)

// here is an env in which what is stored has the CAS 42.
var here = api.Env{Now: 100, Seq: 41}

const month = 2592000

// all are the kinds of commands, in order, and what is said of them.
var all = []struct {
	op            int
	name          string
	keyed, stores bool
}{
	{api.OGet, "OGet", true, false},
	{api.OGat, "OGat", true, false},
	{api.OTouch, "OTouch", true, false},
	{api.OSet, "OSet", true, true},
	{api.OAdd, "OAdd", true, true},
	{api.OReplace, "OReplace", true, true},
	{api.OAppend, "OAppend", true, true},
	{api.OPrepend, "OPrepend", true, true},
	{api.ODelete, "ODelete", true, false},
	{api.OStale, "OStale", true, false},
	{api.OIncr, "OIncr", true, true},
	{api.ODecr, "ODecr", true, true},
	{api.OMeta, "OMeta", true, true},
	{api.OFlush, "OFlush", false, false},
	{api.ONoop, "ONoop", false, false},
	{api.OVersion, "OVersion", false, false},
	{api.OQuit, "OQuit", false, false},
}

// strangers are no kinds of commands.
var strangers = []int{math.MinInt, -100, -2, -1, 17, 18, 19, 63, 64, 100, 255, 256, 1 << 32, math.MaxInt}

// kept is what k has: nothing of it is a nought, or what a command of these tests tells.
func kept() api.Item {
	return api.Item{Key: "k", Value: []byte("30"), Flags: 7, Exp: 500, CAS: 9, Sec: 20, Seq: 8}
}

// but is an item, or a result, that was changed.
func but[T any](v T, how func(*T)) T {
	how(&v)
	return v
}

// newly is an item that was stored by a command in here.
func newly(key, value string, flags uint32, exp int) api.Item {
	return api.Item{Key: key, Value: []byte(value), Flags: flags, Exp: exp, CAS: 42, Sec: 100, Seq: 41}
}

// having is a shard with items, and much room.
func having(t *testing.T, items ...api.Item) *shard.Shard {
	t.Helper()
	return havingIn(t, 1<<20, items...)
}

func havingIn(t *testing.T, budget int, items ...api.Item) *shard.Shard {
	t.Helper()
	s := shard.New(1, budget, 2)
	for _, it := range items {
		if e := s.Store(it, api.Env{Now: -1000}); e != api.OK {
			t.Fatalf("Store(%.30q) = %d", it.Key, e)
		}
	}
	return s
}

func shown(c api.Cmd) string {
	c.Key, c.Value = c.Key[:min(len(c.Key), 20)], c.Value[:min(len(c.Value), 20)]
	return fmt.Sprintf("%+v", c)
}

func wantDo(t *testing.T, s *shard.Shard, c api.Cmd, env api.Env, want api.Result) {
	t.Helper()
	if x := Do(s, c, env); !sameResult(x, want) {
		t.Errorf("Do(%s) = %+v; want %+v", shown(c), x, want)
	}
}

func wantStatus(t *testing.T, s *shard.Shard, c api.Cmd, env api.Env, want int) {
	t.Helper()
	if x := Do(s, c, env); x.Status != want {
		t.Errorf("Do(%s) = %+v; want the status %d", shown(c), x, want)
	}
}

func wantHas(t *testing.T, s *shard.Shard, items ...api.Item) {
	t.Helper()
	if has := slices.Collect(s.All()); !slices.EqualFunc(has, items, sameItem) {
		t.Errorf("has %+v; want %+v", has, items)
	}
}

func wantDrops(t *testing.T, s *shard.Shard, keys ...string) {
	t.Helper()
	if drops := s.Drops(); !slices.Equal(drops, keys) {
		t.Errorf("Drops() = %q; want %q", drops, keys)
	}
}

// P12.5: the chapter's example.
func TestTheExample(t *testing.T) {
	s := having(t)
	wantDo(t, s, api.Cmd{Op: api.OSet, Key: "k", Value: []byte("5")}, api.Env{Now: 1}, api.Result{Status: api.SStored, CAS: 1})
	wantDo(t, s, api.Cmd{Op: api.OIncr, Key: "k", Delta: 3}, api.Env{Now: 1, Seq: 1}, api.Result{Status: api.SNumber, Number: 8, CAS: 2})
	wantDo(t, s, api.Cmd{Op: api.ODecr, Key: "k", Delta: 9}, api.Env{Now: 1, Seq: 2}, api.Result{Status: api.SNumber, Number: 0, CAS: 3})
	wantHas(t, s, api.Item{Key: "k", Value: []byte("0"), CAS: 3, Sec: 1, Seq: 2})
}

// P12.1
func TestKeyedAndStores(t *testing.T) {
	for i, k := range all {
		if k.op != i || Keyed(i) != k.keyed || Stores(i) != k.stores {
			t.Errorf("%s: Keyed(%d) = %t, Stores(%d) = %t", k.name, i, Keyed(i), i, Stores(i))
		}
	}
	for _, op := range strangers {
		if Keyed(op) || Stores(op) {
			t.Errorf("Keyed(%d) = %t, Stores(%d) = %t", op, Keyed(op), op, Stores(op))
		}
	}
}

// full is a command of a kind, of which all is told.
func full(op int, key string) api.Cmd {
	return api.Cmd{Op: op, Key: key, Value: []byte("v"), Flags: 1, Exp: 2, CAS: 3, Delta: 4, Initial: 5, Makes: true, Sets: true}
}

// P12.7: nothing is looked for, used or changed by commands that are not Keyed, whatever they tell.
func TestCommandsWithoutKeys(t *testing.T) {
	want := map[int]int{api.OFlush: api.SOK, api.ONoop: api.SOK, api.OVersion: api.SVersion, api.OQuit: api.SOK}
	for _, op := range strangers {
		want[op] = api.SOK
	}
	for op, status := range want {
		a, b := small("a"), but(small("b"), func(it *api.Item) { it.Exp = 50 })
		s := havingIn(t, 128, a, b)
		for _, key := range []string{"", "a", "b", "c", "c"} {
			wantDo(t, s, api.Cmd{Op: op, Key: key}, here, api.Result{Status: status})
			wantDo(t, s, full(op, key), here, api.Result{Status: status})
		}
		wantHas(t, s, a, b)
		wantDrops(t, s)
		// a is still the first that would be given up, and c was never used.
		if e := s.Store(small("c"), api.Env{Now: 1}); e != api.ErrLost {
			t.Errorf("%d: Store(c) = %d", op, e)
		}
		s.Use("c")
		if e := s.Store(small("c"), api.Env{Now: 1}); e != api.OK {
			t.Errorf("%d: Store(c) = %d", op, e)
		}
		wantDrops(t, s, "a")
	}
}

// small is an item of 64 bytes without an end.
func small(key string) api.Item {
	return api.Item{Key: key, Value: bytes.Repeat([]byte("1"), 14-len(key)), Flags: 7, CAS: 9, Sec: 20, Seq: 8}
}

// statuses are what comes of a kind of commands: whose key has nothing, with a CAS of 0 and with another one, and with Makes; and whose key has something, with a CAS of 0 or its own, and with another one.
var statuses = []struct{ op, nothing, nothingCAS, makes, it, other int }{
	{api.OGet, api.SMiss, api.SMiss, api.SMiss, api.SHit, api.SHit},
	{api.OGat, api.SMiss, api.SMiss, api.SMiss, api.SHit, api.SHit},
	{api.OTouch, api.SMiss, api.SMiss, api.SMiss, api.STouched, api.STouched},
	{api.OSet, api.SStored, api.SMiss, api.SStored, api.SStored, api.SExists},
	{api.OAdd, api.SStored, api.SStored, api.SStored, api.SRefused, api.SRefused},
	{api.OReplace, api.SRefused, api.SRefused, api.SRefused, api.SStored, api.SExists},
	{api.OAppend, api.SRefused, api.SRefused, api.SRefused, api.SStored, api.SExists},
	{api.OPrepend, api.SRefused, api.SRefused, api.SRefused, api.SStored, api.SExists},
	{api.ODelete, api.SMiss, api.SMiss, api.SMiss, api.SDeleted, api.SExists},
	{api.OStale, api.SMiss, api.SMiss, api.SMiss, api.SDeleted, api.SExists},
	{api.OIncr, api.SMiss, api.SMiss, api.SNumber, api.SNumber, api.SExists},
	{api.ODecr, api.SMiss, api.SMiss, api.SNumber, api.SNumber, api.SExists},
	{api.OMeta, api.SMiss, api.SMiss, api.SHit, api.SHit, api.SHit},
}

// bare is a command of a kind, with a value and nothing else.
func bare(op int) api.Cmd { return api.Cmd{Op: op, Key: "k", Value: []byte("5")} }

// P12.2 to P12.6: of each kind, with something that lives, and each CAS.
func TestStatusesOfSomething(t *testing.T) {
	for _, k := range statuses {
		for _, c := range []struct {
			cas  uint64
			want int
		}{{0, k.it}, {9, k.it}, {1, k.other}, {8, k.other}, {10, k.other}, {42, k.other}, {math.MaxUint64, k.other}} {
			for _, makes := range []bool{false, true} {
				s := having(t, small("j"), kept(), small("l"))
				cmd := bare(k.op)
				cmd.CAS, cmd.Makes = c.cas, makes
				x := Do(s, cmd, here)
				if x.Status != c.want {
					t.Errorf("%s: %+v; want the status %d", shown(cmd), x, c.want)
				}
				wantDrops(t, s)
				if c.want == api.SExists || c.want == api.SRefused {
					wantHas(t, s, small("j"), kept(), small("l"))
					if !sameResult(x, api.Result{Status: c.want}) {
						t.Errorf("%s: %+v", shown(cmd), x)
					}
				}
			}
		}
	}
}

// P12.3: what has a CAS of 0 is another one than any that is asked for.
func TestOtherOfNoCAS(t *testing.T) {
	none := but(kept(), func(it *api.Item) { it.CAS = 0 })
	for _, k := range statuses {
		for _, cas := range []uint64{1, math.MaxUint64} {
			s := having(t, none)
			cmd := bare(k.op)
			cmd.CAS = cas
			wantStatus(t, s, cmd, here, k.other)
		}
		wantStatus(t, having(t, none), bare(k.op), here, k.it)
	}
}

// P12.2 to P12.6: of each kind, with nothing: there never was something, or it has ended, or was flushed, and is dropped.
func TestStatusesOfNothing(t *testing.T) {
	flushed := api.Env{Now: 100, Seq: 41, Flush: 100, FlushSeq: 41}
	later := api.Env{Now: 100, Seq: 41, Flush: 60}
	ended := but(kept(), func(it *api.Item) { it.Exp = 100 })
	for _, k := range statuses {
		for _, c := range []struct {
			cas   uint64
			makes bool
			want  int
		}{{0, false, k.nothing}, {9, false, k.nothingCAS}, {1, false, k.nothingCAS}, {0, true, k.makes}} {
			cmd := bare(k.op)
			cmd.CAS, cmd.Makes = c.cas, c.makes
			for _, had := range []struct {
				items []api.Item
				env   api.Env
			}{{nil, here}, {[]api.Item{ended}, here}, {[]api.Item{kept()}, flushed}, {[]api.Item{kept()}, later}} {
				s := having(t, had.items...)
				x := Do(s, cmd, had.env)
				if x.Status != c.want {
					t.Errorf("%s: %+v; want the status %d", shown(cmd), x, c.want)
				}
				if len(had.items) == 0 {
					wantDrops(t, s)
				} else {
					wantDrops(t, s, "k")
				}
				if c.want == api.SMiss || c.want == api.SRefused {
					wantHas(t, s)
					if !sameResult(x, api.Result{Status: c.want}) {
						t.Errorf("%s: %+v", shown(cmd), x)
					}
				}
			}
		}
	}
}

// P12.5, P12.6: where something is made, a CAS plays no part.
func TestMakesWithCAS(t *testing.T) {
	for _, op := range []int{api.OIncr, api.ODecr} {
		s := having(t)
		wantDo(t, s, api.Cmd{Op: op, Key: "k", CAS: 5, Makes: true, Initial: 3}, here, api.Result{Status: api.SNumber, Number: 3, CAS: 42})
		wantHas(t, s, newly("k", "3", 0, 0))
	}
	s := having(t)
	wantDo(t, s, api.Cmd{Op: api.OMeta, Key: "k", CAS: 5, Makes: true}, here, api.Result{CAS: 42, TTL: -1, Won: true})
}

// P12.2 to P12.6: all that is told, and all that the key has then, of each kind and something that lives.
func TestOfSomething(t *testing.T) {
	view := api.Result{Value: []byte("30"), Flags: 7, CAS: 9, TTL: 400}
	seen := but(kept(), func(it *api.Item) { it.Seen = true })
	stored := api.Result{Status: api.SStored, CAS: 42}
	deleted := api.Result{Status: api.SDeleted}
	for _, c := range []struct {
		cmd  api.Cmd
		x    api.Result
		then []api.Item
	}{
		{api.Cmd{Op: api.OGet, Flags: 1, Exp: 5}, view, []api.Item{seen}},
		{api.Cmd{Op: api.OGat, Exp: 5}, api.Result{Value: []byte("30"), Flags: 7, CAS: 9, TTL: 5}, []api.Item{but(seen, func(it *api.Item) { it.Exp = 105 })}},
		{api.Cmd{Op: api.OTouch, Exp: 5}, api.Result{Status: api.STouched}, []api.Item{but(kept(), func(it *api.Item) { it.Exp = 105 })}},
		{api.Cmd{Op: api.OSet, Value: []byte("xyz"), Flags: 2, Exp: 5}, stored, []api.Item{newly("k", "xyz", 2, 105)}},
		{api.Cmd{Op: api.OSet, CAS: 9}, stored, []api.Item{newly("k", "", 0, 0)}},
		{api.Cmd{Op: api.OAdd, Value: []byte("xyz"), Flags: 2, Exp: 5}, api.Result{Status: api.SRefused}, []api.Item{kept()}},
		{api.Cmd{Op: api.OReplace, Value: []byte("xyz"), Flags: 2, Exp: 5, CAS: 9}, stored, []api.Item{newly("k", "xyz", 2, 105)}},
		{api.Cmd{Op: api.OAppend, Value: []byte("xyz"), Flags: 2, Exp: 5, CAS: 9}, stored, []api.Item{newly("k", "30xyz", 7, 500)}},
		{api.Cmd{Op: api.OPrepend, Value: []byte("xyz"), Flags: 2, Exp: 5}, stored, []api.Item{newly("k", "xyz30", 7, 500)}},
		{api.Cmd{Op: api.OAppend, Exp: 5}, stored, []api.Item{newly("k", "30", 7, 500)}},
		{api.Cmd{Op: api.OPrepend, Flags: 2}, stored, []api.Item{newly("k", "30", 7, 500)}},
		{api.Cmd{Op: api.ODelete, CAS: 9}, deleted, nil},
		{api.Cmd{Op: api.OStale, Flags: 2, Exp: 5}, deleted, []api.Item{but(kept(), func(it *api.Item) { it.Stale, it.CAS = true, 42 })}},
		{api.Cmd{Op: api.OStale, Sets: true, Exp: 5, CAS: 9}, deleted, []api.Item{but(kept(), func(it *api.Item) { it.Stale, it.CAS, it.Exp = true, 42, 105 })}},
		{api.Cmd{Op: api.OStale, Sets: true}, deleted, []api.Item{but(kept(), func(it *api.Item) { it.Stale, it.CAS, it.Exp = true, 42, 0 })}},
		{api.Cmd{Op: api.OIncr, Delta: 5, Initial: 99, Makes: true, Flags: 2, Exp: 5}, api.Result{Status: api.SNumber, Number: 35, CAS: 42}, []api.Item{newly("k", "35", 7, 500)}},
		{api.Cmd{Op: api.ODecr, Delta: 21, Initial: 99, Flags: 2, Exp: 5, CAS: 9}, api.Result{Status: api.SNumber, Number: 9, CAS: 42}, []api.Item{newly("k", "9", 7, 500)}},
		{api.Cmd{Op: api.OMeta, Exp: 5}, view, []api.Item{seen}},
		{api.Cmd{Op: api.OMeta, Makes: true, Exp: 5, CAS: 1}, view, []api.Item{seen}},
		{api.Cmd{Op: api.OMeta, Sets: true, Exp: 5}, api.Result{Value: []byte("30"), Flags: 7, CAS: 9, TTL: 5}, []api.Item{but(seen, func(it *api.Item) { it.Exp = 105 })}},
		{api.Cmd{Op: api.OMeta, Sets: true, Makes: true}, api.Result{Value: []byte("30"), Flags: 7, CAS: 9, TTL: -1}, []api.Item{but(seen, func(it *api.Item) { it.Exp = 0 })}},
	} {
		s := having(t, kept())
		c.cmd.Key = "k"
		wantDo(t, s, c.cmd, here, c.x)
		wantHas(t, s, c.then...)
		wantDrops(t, s)
	}
}

// P12.3, P12.5, P12.6: all that is told, and all that the key has then, where there was nothing and something is stored.
func TestOfNothing(t *testing.T) {
	stored := api.Result{Status: api.SStored, CAS: 42}
	for _, c := range []struct {
		cmd  api.Cmd
		x    api.Result
		then api.Item
	}{
		{api.Cmd{Op: api.OSet, Value: []byte("xyz"), Flags: 2, Exp: 5}, stored, newly("k", "xyz", 2, 105)},
		{api.Cmd{Op: api.OSet, Value: []byte("xyz"), Flags: math.MaxUint32, Makes: true, Sets: true}, stored, newly("k", "xyz", math.MaxUint32, 0)},
		{api.Cmd{Op: api.OAdd, Value: []byte("xyz"), Flags: 2, Exp: 5}, stored, newly("k", "xyz", 2, 105)},
		{api.Cmd{Op: api.OAdd, Value: []byte{0, 13, 10, 255}, CAS: 77}, stored, newly("k", "\x00\r\n\xff", 0, 0)},
		{api.Cmd{Op: api.OIncr, Delta: 5, Initial: 12, Makes: true, Flags: 2, Exp: 5}, api.Result{Status: api.SNumber, Number: 12, CAS: 42}, newly("k", "12", 0, 105)},
		{api.Cmd{Op: api.ODecr, Delta: 5, Initial: math.MaxUint64, Makes: true, Value: []byte("x")}, api.Result{Status: api.SNumber, Number: math.MaxUint64, CAS: 42}, newly("k", "18446744073709551615", 0, 0)},
		{api.Cmd{Op: api.ODecr, Makes: true, Sets: true}, api.Result{Status: api.SNumber, CAS: 42}, newly("k", "0", 0, 0)},
		{api.Cmd{Op: api.OMeta, Makes: true, Value: []byte("x"), Flags: 2, Exp: 5, Initial: 77}, api.Result{CAS: 42, TTL: 5, Won: true}, but(newly("k", "", 0, 105), func(it *api.Item) { it.Won = true })},
		{api.Cmd{Op: api.OMeta, Makes: true, Sets: true}, api.Result{CAS: 42, TTL: -1, Won: true}, but(newly("k", "", 0, 0), func(it *api.Item) { it.Won = true })},
	} {
		c.cmd.Key = "k"
		s := having(t)
		wantDo(t, s, c.cmd, here, c.x)
		wantHas(t, s, c.then)
		wantDrops(t, s)
		// What has ended leaves nothing of itself to what comes in its place.
		s = having(t, but(kept(), func(it *api.Item) { it.Exp, it.Stale, it.Won, it.Seen = 99, true, true, true }))
		wantDo(t, s, c.cmd, here, c.x)
		wantHas(t, s, c.then)
		wantDrops(t, s, "k")
	}
}

// P12.3, P12.5: what is stored is neither Stale nor Won nor Seen, whatever was there.
func TestStoredAnew(t *testing.T) {
	marked := but(kept(), func(it *api.Item) { it.Stale, it.Won, it.Seen = true, true, true })
	for _, c := range []struct {
		op    int
		value string
		flags uint32
		exp   int
	}{{api.OSet, "5", 0, 0}, {api.OReplace, "5", 0, 0}, {api.OAppend, "305", 7, 500}, {api.OPrepend, "530", 7, 500}, {api.OIncr, "30", 7, 500}, {api.ODecr, "30", 7, 500}} {
		s := having(t, marked)
		Do(s, bare(c.op), here)
		wantHas(t, s, newly("k", c.value, c.flags, c.exp))
	}
}

// P12.2, P12.4, P12.6: what is changed of something else than its value stays as it is in all else.
func TestMarksThatStay(t *testing.T) {
	marked := but(kept(), func(it *api.Item) { it.Stale, it.Won, it.Seen = true, true, true })
	view := api.Result{Value: []byte("30"), Flags: 7, CAS: 9, TTL: -1, Stale: true}
	for _, c := range []struct {
		op   int
		x    api.Result
		then api.Item
	}{
		{api.OGet, but(view, func(x *api.Result) { x.TTL = 400 }), marked},
		{api.OGat, view, but(marked, func(it *api.Item) { it.Exp = 0 })},
		{api.OTouch, api.Result{Status: api.STouched}, but(marked, func(it *api.Item) { it.Exp = 0 })},
		{api.OStale, api.Result{Status: api.SDeleted}, but(marked, func(it *api.Item) { it.Won, it.CAS = false, 42 })},
		{api.OMeta, but(view, func(x *api.Result) { x.TTL, x.Lost = 400, true }), marked},
	} {
		s := having(t, marked)
		wantDo(t, s, bare(c.op), here, c.x)
		wantHas(t, s, c.then)
	}
	for _, op := range []int{api.OTouch, api.OStale} {
		s := having(t, kept())
		Do(s, bare(op), here)
		for it := range s.All() {
			if it.Seen {
				t.Errorf("%d: it is Seen", op)
			}
		}
	}
}

// P12.2 to P12.6: which second a time means, for each kind that tells one.
func TestTimes(t *testing.T) {
	times := []struct{ exp, now, at, ttl int }{
		{0, 100, 0, -1}, {1, 100, 101, 1}, {-1, 100, 100, 0}, {math.MinInt, 100, 100, 0},
		{month, 100, month + 100, month}, {month + 1, 100, month + 1, month - 99}, {month + 1, month + 1, month + 1, 0}, {month + 1, 1 << 30, month + 1, 0},
		{api.MaxTime, 100, api.MaxTime, api.MaxTime - 100},
		{5, 0, 6, 6}, {-1, 0, 1, 1}, {5, -50, 6, 56}, {-1, -50, 1, 51}, {0, -50, 0, -1},
	}
	for _, c := range times {
		env := api.Env{Now: c.now, Seq: 41}
		for _, cmd := range []api.Cmd{
			{Op: api.OSet}, {Op: api.OAdd}, {Op: api.OIncr, Makes: true}, {Op: api.ODecr, Makes: true}, {Op: api.OMeta, Makes: true},
		} {
			s := having(t)
			wantAt(t, s, cmd, env, c.exp, c.at, c.ttl)
		}
		for _, cmd := range []api.Cmd{
			{Op: api.OGat}, {Op: api.OTouch}, {Op: api.OSet}, {Op: api.OReplace}, {Op: api.OStale, Sets: true}, {Op: api.OMeta, Sets: true},
		} {
			s := having(t, but(kept(), func(it *api.Item) { it.Exp = 1 << 42 }))
			wantAt(t, s, cmd, env, c.exp, c.at, c.ttl)
		}
	}
}

// wantAt asks which second a command's time means, and how long what it tells lives, if it tells a view.
func wantAt(t *testing.T, s *shard.Shard, cmd api.Cmd, env api.Env, exp, at, ttl int) {
	t.Helper()
	cmd.Key, cmd.Exp = "k", exp
	x := Do(s, cmd, env)
	if x.Status != api.SHit {
		ttl = 0
	}
	if x.TTL != ttl {
		t.Errorf("%s at %d: TTL %d; want %d", shown(cmd), env.Now, x.TTL, ttl)
	}
	for it := range s.All() {
		if it.Exp != at {
			t.Errorf("%s at %d: Exp %d; want %d", shown(cmd), env.Now, it.Exp, at)
		}
	}
	if s.Len() != 1 {
		t.Errorf("%s at %d: %d items", shown(cmd), env.Now, s.Len())
	}
}

// P12.2 to P12.6: an end that a command does not set stays as it was.
func TestTimesThatStay(t *testing.T) {
	for _, end := range []int{0, 101, 1 << 40} {
		for _, cmd := range []api.Cmd{
			{Op: api.OGet}, {Op: api.OAppend}, {Op: api.OPrepend}, {Op: api.OStale}, {Op: api.OIncr, Makes: true}, {Op: api.ODecr, Makes: true}, {Op: api.OMeta}, {Op: api.OMeta, Makes: true},
		} {
			s := having(t, but(kept(), func(it *api.Item) { it.Exp = end }))
			wantAt(t, s, cmd, here, 5, end, max(end-100, -1))
		}
	}
}

// P12.3: what ends at once was stored, and is found not to live when it is looked for.
func TestEndsAtOnce(t *testing.T) {
	for _, cmd := range []api.Cmd{{Op: api.OSet}, {Op: api.OAdd}, {Op: api.OIncr, Makes: true}, {Op: api.OMeta, Makes: true}} {
		s := having(t)
		cmd.Key, cmd.Exp = "k", -1
		if x := Do(s, cmd, here); x.CAS != 42 || s.Len() != 1 {
			t.Errorf("%s: %+v, %d items", shown(cmd), x, s.Len())
		}
		wantDrops(t, s)
		wantDo(t, s, api.Cmd{Op: api.OGet, Key: "k"}, here, api.Result{Status: api.SMiss})
		wantDrops(t, s, "k")
	}
}

// P12.2 to P12.6: the CAS is one more than the Seq, and goes round; Sec and Seq are those of the env.
func TestStoredWhen(t *testing.T) {
	for _, env := range []api.Env{{}, {Now: 1}, {Now: -3, Seq: 7}, {Now: 1 << 41, Seq: math.MaxUint64 - 1}, {Now: 5, Seq: math.MaxUint64}, {Now: 5, Seq: 6, Flush: 5, FlushSeq: 6}, {Now: 5, Seq: 6, Flush: 9}} {
		endless := but(kept(), func(it *api.Item) { it.Exp, it.Sec, it.Seq = 0, 5, 6 })
		for _, k := range all {
			if !k.stores {
				continue
			}
			for _, had := range [][]api.Item{nil, {endless}} {
				s := having(t, had...)
				cmd := bare(k.op)
				cmd.Makes = true
				x := Do(s, cmd, env)
				if x.Status == api.SRefused || k.op == api.OMeta && had != nil {
					continue
				}
				for it := range s.All() {
					if x.CAS != env.Seq+1 || it.CAS != env.Seq+1 || it.Sec != env.Now || it.Seq != env.Seq {
						t.Errorf("%s in %+v: CAS %d, %+v", k.name, env, x.CAS, it)
					}
				}
			}
		}
		s := having(t, endless)
		wantStatus(t, s, bare(api.OStale), env, api.SDeleted)
		wantHas(t, s, but(endless, func(it *api.Item) { it.Stale, it.CAS = true, env.Seq+1 }))
	}
}

// P12.3: values that have 1000 bytes together, and one byte more.
func TestLongValues(t *testing.T) {
	for _, c := range []struct {
		had, more int
		fits      bool
	}{{0, 0, true}, {0, 1000, true}, {0, 1001, false}, {1000, 0, true}, {1000, 1, false}, {1, 999, true}, {1, 1000, false}, {999, 1, true}, {500, 500, true}, {500, 501, false}, {501, 500, false}, {1001, 0, false}, {1500, 1, false}, {3, 5000, false}} {
		had, more := strings.Repeat("a", c.had), strings.Repeat("b", c.more)
		for op, both := range map[int]string{api.OAppend: had + more, api.OPrepend: more + had} {
			it := but(kept(), func(it *api.Item) { it.Value = []byte(had) })
			s := having(t, it)
			cmd := api.Cmd{Op: op, Key: "k", Value: []byte(more)}
			if c.fits {
				wantDo(t, s, cmd, here, api.Result{Status: api.SStored, CAS: 42})
				wantHas(t, s, newly("k", both, 7, 500))
			} else {
				wantDo(t, s, cmd, here, api.Result{Status: api.SMemory})
				wantHas(t, s, it)
			}
			// That it is another one is told first.
			s = having(t, it)
			cmd.CAS = 8
			wantDo(t, s, cmd, here, api.Result{Status: api.SExists})
			wantHas(t, s, it)
		}
	}
}

// P12.3: of one value alone just what there are chunks for plays a part.
func TestGreatValues(t *testing.T) {
	for _, many := range []int{1000, 1001, 1997, 1998, 5000} {
		for _, op := range []int{api.OSet, api.OAdd, api.OReplace} {
			var had []api.Item
			if op == api.OReplace {
				had = []api.Item{kept()}
			}
			s := having(t, had...)
			value := strings.Repeat("v", many)
			cmd := api.Cmd{Op: op, Key: "k", Value: []byte(value)}
			if 50+1+many <= 2048 {
				wantDo(t, s, cmd, here, api.Result{Status: api.SStored, CAS: 42})
				wantHas(t, s, newly("k", value, 0, 0))
			} else {
				wantDo(t, s, cmd, here, api.Result{Status: api.SMemory})
				wantHas(t, s, had...)
			}
		}
	}
}

// P12.5: what is added and taken away.
func TestNumbers(t *testing.T) {
	const most = math.MaxUint64
	for _, c := range []struct {
		value      string
		delta      uint64
		more, less uint64
	}{
		{"5", 3, 8, 2}, {"8", 9, 17, 0}, {"5", 5, 10, 0}, {"5", 0, 5, 5}, {"0", 0, 0, 0}, {"0", 1, 1, 0}, {"9", 1, 10, 8}, {"10", 1, 11, 9}, {"007", 1, 8, 6},
		{"18446744073709551615", 1, 0, most - 1}, {"18446744073709551615", 2, 1, most - 2}, {"18446744073709551615", most, most - 1, 0}, {"18446744073709551614", 1, most, most - 2}, {"18446744073709551614", most, most - 2, 0},
		{"0", most, most, 0}, {"1", most, 0, 0}, {"2", most, 1, 0},
		{"00000000000000000005", 1, 6, 4}, {"00000000000000000000", 7, 7, 0}, {"9223372036854775807", 1, 1 << 63, 1<<63 - 2}, {"9223372036854775808", 1 << 63, 0, 0},
	} {
		for op, want := range map[int]uint64{api.OIncr: c.more, api.ODecr: c.less} {
			for _, makes := range []bool{false, true} {
				s := having(t, but(kept(), func(it *api.Item) { it.Value = []byte(c.value) }))
				wantDo(t, s, api.Cmd{Op: op, Key: "k", Delta: c.delta, Makes: makes, Initial: 77}, here, api.Result{Status: api.SNumber, Number: want, CAS: 42})
				wantHas(t, s, newly("k", fmt.Sprint(want), 7, 500))
			}
		}
	}
}

// P12.5: values that are no numbers stay.
func TestNoNumbers(t *testing.T) {
	for _, value := range []string{
		"", " ", "x", "5x", "x5", " 5", "5 ", "-5", "-0", "+5", "5.0", "1e3", "0x10", "1_0", "5\r\n", "\x005", "٣",
		"18446744073709551616", "18446744073709551625", "99999999999999999999",
		"000000000000000000005", "000000000000000000000", "018446744073709551615", "100000000000000000000", strings.Repeat("0", 40), strings.Repeat("0", 41), strings.Repeat("9", 1000),
	} {
		it := but(kept(), func(it *api.Item) { it.Value = []byte(value) })
		for _, op := range []int{api.OIncr, api.ODecr} {
			for _, makes := range []bool{false, true} {
				s := having(t, it)
				cmd := api.Cmd{Op: op, Key: "k", Delta: 1, Makes: makes, Initial: 77, CAS: 9}
				wantDo(t, s, cmd, here, api.Result{Status: api.SNoNumber})
				// That it is another one is told first.
				cmd.CAS = 8
				wantDo(t, s, cmd, here, api.Result{Status: api.SExists})
				wantHas(t, s, it)
			}
		}
	}
}

// marks are what is told of an item, and what it is then.
type marks struct{ stale, won, lost, isWon bool }

func wantMarks(t *testing.T, s *shard.Shard, cmd api.Cmd, env api.Env, want marks) {
	t.Helper()
	x := Do(s, cmd, env)
	for it := range s.All() {
		got := marks{x.Stale, x.Won, x.Lost, it.Won}
		if x.Status != api.SHit || got != want || it.Stale != want.stale || !it.Seen {
			t.Errorf("%s: %+v, and it is %+v then; want %+v", shown(cmd), x, it, want)
		}
	}
}

// P12.6: what is Stale, Won, both or neither, again and again.
func TestWonAndLost(t *testing.T) {
	for _, c := range []struct {
		stale, won bool
		first      marks
		again      marks
	}{
		{false, false, marks{}, marks{}},
		{true, false, marks{stale: true, won: true, isWon: true}, marks{stale: true, lost: true, isWon: true}},
		{false, true, marks{lost: true, isWon: true}, marks{lost: true, isWon: true}},
		{true, true, marks{stale: true, lost: true, isWon: true}, marks{stale: true, lost: true, isWon: true}},
	} {
		for _, cmd := range []api.Cmd{{Op: api.OMeta}, {Op: api.OMeta, Sets: true, Exp: 50}, {Op: api.OMeta, Makes: true}, {Op: api.OMeta, CAS: 1}} {
			cmd.Key = "k"
			s := having(t, but(kept(), func(it *api.Item) { it.Stale, it.Won = c.stale, c.won }))
			wantMarks(t, s, cmd, here, c.first)
			for range 3 {
				wantMarks(t, s, cmd, here, c.again)
				// A get is told that it is stale, and nothing else, and wins nothing.
				wantMarks(t, s, bare(api.OGet), here, marks{stale: c.stale, isWon: c.again.isWon})
				wantMarks(t, s, api.Cmd{Op: api.OGat, Key: "k", Exp: 60}, here, marks{stale: c.stale, isWon: c.again.isWon})
			}
		}
	}
}

// P12.6: what was made is won by the one who made it, till it is stored.
func TestMadeIsWon(t *testing.T) {
	s := having(t)
	meta := api.Cmd{Op: api.OMeta, Key: "k", Makes: true, Exp: 30}
	wantDo(t, s, meta, here, api.Result{CAS: 42, TTL: 30, Won: true})
	for range 3 {
		wantMarks(t, s, meta, here, marks{lost: true, isWon: true})
	}
	wantDo(t, s, bare(api.OGet), here, api.Result{CAS: 42, TTL: 30})
	wantStatus(t, s, bare(api.OSet), here, api.SStored)
	wantMarks(t, s, meta, here, marks{})
	// What has ended is made anew, and won anew.
	wantStatus(t, s, api.Cmd{Op: api.OTouch, Key: "k", Exp: 1}, here, api.STouched)
	wantDo(t, s, meta, api.Env{Now: 101, Seq: 50}, api.Result{CAS: 51, TTL: 30, Won: true})
	wantDrops(t, s, "k")
}

// P12.4, P12.8: of those who get something stale just one has won it, until it is stored, or is stale, anew.
func TestOneWins(t *testing.T) {
	meta := api.Cmd{Op: api.OMeta, Key: "k"}
	between := []api.Cmd{meta, {Op: api.OGet}, {Op: api.OGat, Exp: 40}, {Op: api.OTouch, Exp: 50}, {Op: api.OAdd}, {Op: api.OSet, CAS: 1}, {Op: api.ODelete, CAS: 1}, {Op: api.OStale, CAS: 1}, {Op: api.OMeta, Makes: true}, {Op: api.OIncr, CAS: 1}, {Op: api.ONoop}}
	anew := []api.Cmd{{Op: api.OSet}, {Op: api.OReplace}, {Op: api.OAppend}, {Op: api.OPrepend}, {Op: api.OIncr}, {Op: api.ODecr}}
	for _, store := range anew {
		s, seq := having(t, kept()), uint64(100)
		do := func(c api.Cmd) api.Result {
			seq++
			c.Key = "k"
			return Do(s, c, api.Env{Now: 100, Seq: seq})
		}
		wins := func() int {
			won := 0
			for _, c := range between {
				for _, c := range []api.Cmd{c, meta} {
					x := do(c)
					if x.Won {
						won++
					}
					if x.Won && x.Lost || c.Op == api.OMeta && x.Stale != (x.Won || x.Lost) {
						t.Errorf("%s: %+v", shown(c), x)
					}
				}
			}
			return won
		}
		for range 3 {
			if n := wins(); n != 0 {
				t.Errorf("%d have won what is not stale", n)
			}
			for range 3 {
				do(api.Cmd{Op: api.OStale})
				if n := wins(); n != 1 {
					t.Errorf("%d have won what is stale", n)
				}
			}
			store.Value = []byte("1")
			do(store)
		}
	}
}

// P12.8: what was stored is what a get tells right behind it.
func TestGetTellsWhatWasStored(t *testing.T) {
	for _, k := range all {
		for _, had := range [][]api.Item{nil, {kept()}} {
			s := having(t, had...)
			cmd := bare(k.op)
			cmd.Flags, cmd.Exp, cmd.Makes, cmd.Initial, cmd.Delta = 3, 7, true, 11, 2
			x := Do(s, cmd, here)
			if x.Status != api.SStored && x.Status != api.SNumber {
				continue
			}
			want := map[int]api.Result{
				api.OSet:     {Value: []byte("5"), Flags: 3, TTL: 7},
				api.OAdd:     {Value: []byte("5"), Flags: 3, TTL: 7},
				api.OReplace: {Value: []byte("5"), Flags: 3, TTL: 7},
				api.OAppend:  {Value: []byte("305"), Flags: 7, TTL: 400},
				api.OPrepend: {Value: []byte("530"), Flags: 7, TTL: 400},
				api.OIncr:    {Value: []byte("32"), Flags: 7, TTL: 400},
				api.ODecr:    {Value: []byte("28"), Flags: 7, TTL: 400},
			}[k.op]
			if had == nil && (k.op == api.OIncr || k.op == api.ODecr) {
				want = api.Result{Value: []byte("11"), TTL: 7}
			}
			want.CAS = x.CAS
			for _, op := range []int{api.OGet, api.OMeta} {
				wantDo(t, s, api.Cmd{Op: op, Key: "k"}, api.Env{Now: 100, Seq: 42}, want)
			}
		}
	}
}

// P12.3, P12.5, P12.6: where the Store is refused, or there is no memory for it.
func TestNoRoom(t *testing.T) {
	refused, memory, miss := api.Result{Status: api.SRefused}, api.Result{Status: api.SMemory}, api.Result{Status: api.SMiss}
	for _, c := range []struct {
		cmd            api.Cmd
		lost, noMemory api.Result
		room           int
	}{
		{api.Cmd{Op: api.OSet}, refused, memory, api.SStored},
		{api.Cmd{Op: api.OAdd}, refused, memory, api.SStored},
		{api.Cmd{Op: api.OIncr, Makes: true, Initial: 5}, refused, memory, api.SNumber},
		{api.Cmd{Op: api.ODecr, Makes: true, Initial: 5}, refused, memory, api.SNumber},
		{api.Cmd{Op: api.OMeta, Makes: true}, miss, miss, api.SHit},
	} {
		s := havingIn(t, 128, small("a"), small("b"))
		s.Use("a")
		s.Use("b")
		c.cmd.Key = "c"
		wantDo(t, s, c.cmd, here, c.lost) // used once, as a was
		wantHas(t, s, small("a"), small("b"))
		wantDrops(t, s)
		wantStatus(t, s, c.cmd, here, c.room)
		wantDrops(t, s, "a")

		s = havingIn(t, 63)
		wantDo(t, s, c.cmd, here, c.noMemory)
		wantHas(t, s)
		s = having(t, kept())
		c.cmd.Key = strings.Repeat("c", 1999)
		wantDo(t, s, c.cmd, here, c.noMemory)
		wantHas(t, s, kept())
	}
}

// P12.3, P12.5: what there is no memory for leaves what was there, and what was dropped meanwhile stays so.
func TestNoRoomToGrow(t *testing.T) {
	key := "twelve_bytes" // with two bytes as value 64 bytes, with three 65
	had := api.Item{Key: key, Value: []byte("99"), Flags: 7, CAS: 9, Sec: 20, Seq: 8}
	for _, cmd := range []api.Cmd{
		{Op: api.OSet, Value: []byte("xyz")}, {Op: api.OReplace, Value: []byte("xyz"), CAS: 9}, {Op: api.OAppend, Value: []byte("x")}, {Op: api.OPrepend, Value: []byte("x")}, {Op: api.OIncr, Delta: 1},
	} {
		cmd.Key = key
		s := havingIn(t, 64, had)
		wantDo(t, s, cmd, here, api.Result{Status: api.SMemory})
		wantHas(t, s, had)
		wantDrops(t, s)
		// What has an item needs nobody's leave to drop another one.
		s = havingIn(t, 128, small("a"), had)
		for range 9 {
			s.Use("a")
		}
		if x := Do(s, cmd, here); x.CAS != 42 {
			t.Errorf("%s: %+v", shown(cmd), x)
		}
		wantDrops(t, s, "a")
		s = havingIn(t, 127, had)
		wantDo(t, s, cmd, here, api.Result{Status: api.SMemory})
		wantHas(t, s, had)
	}
	s := havingIn(t, 64, had)
	wantDo(t, s, api.Cmd{Op: api.ODecr, Key: key, Delta: 1}, here, api.Result{Status: api.SNumber, Number: 98, CAS: 42})
	s = havingIn(t, 128, small("a"), had)
	wantDo(t, s, api.Cmd{Op: api.OSet, Key: key, Value: make([]byte, 100)}, here, api.Result{Status: api.SMemory})
	wantHas(t, s, had)
	wantDrops(t, s, "a")
}

// P12.2 to P12.6: each command of a kind that is Keyed uses its key once.
func TestUses(t *testing.T) {
	for _, k := range all {
		if !k.keyed || k.op == api.OAdd { // which stores whatever its CAS is
			continue
		}
		s := havingIn(t, 128, small("a"), small("b"))
		for _, key := range []string{"a", "a", "b", "b"} {
			s.Use(key)
		}
		cmd := bare(k.op)
		cmd.Key, cmd.CAS = "c", 1
		for range 2 {
			wantStatus(t, s, cmd, here, statuses[k.op].nothingCAS)
		}
		if e := s.Store(small("c"), here); e != api.ErrLost {
			t.Errorf("%s: c was used more than twice: %d", k.name, e)
		}
		wantStatus(t, s, cmd, here, statuses[k.op].nothingCAS)
		if e := s.Store(small("c"), here); e != api.OK {
			t.Errorf("%s: c was used less than three times: %d", k.name, e)
		}
		wantDrops(t, s, "a")
	}
}

// P12.3: a key is used ahead of being stored, so that the judge knows of that.
func TestUsesAheadOfStoring(t *testing.T) {
	for _, op := range []int{api.OSet, api.OAdd} {
		cmd := api.Cmd{Op: op, Key: "c", Value: []byte("v")}
		wantStatus(t, havingIn(t, 128, small("a"), small("b")), cmd, here, api.SStored)
		s := havingIn(t, 128, small("a"), small("b"))
		s.Use("a")
		s.Use("b")
		wantStatus(t, s, cmd, here, api.SRefused)
		wantStatus(t, s, cmd, here, api.SStored)
		wantDrops(t, s, "a")
	}
}

// P12.2 to P12.6: a key that has something is given up later for it, whatever came of the command, if it still has something then.
func TestUsesOfSomething(t *testing.T) {
	for _, k := range all {
		if !k.keyed {
			continue
		}
		for _, cas := range []uint64{0, 1} {
			s := havingIn(t, 192, small("a"), small("b"), small("c"))
			cmd := bare(k.op)
			cmd.Key, cmd.CAS = "a", cas
			if k.op == api.OAppend || k.op == api.OPrepend {
				cmd.Value = nil // it has no room to grow
			}
			x := Do(s, cmd, here)
			wantDrops(t, s)
			for range 9 {
				s.Use("d")
			}
			if k.op == api.ODelete && x.Status == api.SDeleted {
				if e := s.Store(small("a"), here); e != api.OK {
					t.Errorf("a was not removed: %d", e)
				}
			}
			if e := s.Store(small("d"), here); e != api.OK {
				t.Errorf("%s: Store(d) = %d", k.name, e)
			}
			wantDrops(t, s, "b")
		}
	}
}

// P12.2: a key is looked for first: what does not live is dropped ahead of its use, which would else take the protected place of another one.
func TestLooksFirst(t *testing.T) {
	for _, k := range all {
		if !k.keyed {
			continue
		}
		dead := but(small("a"), func(it *api.Item) { it.Exp = 100 })
		s := havingIn(t, 256, dead, small("b"), small("p"), small("q"))
		s.Use("p")
		s.Use("q") // two are protected at most: these
		cmd := bare(k.op)
		cmd.Key = "a"
		Do(s, cmd, here)
		wantDrops(t, s, "a")
		s.Remove("a")
		if e := s.Store(small("c"), here); e != api.OK {
			t.Fatalf("%s: Store(c) = %d", k.name, e)
		}
		great := but(small("d"), func(it *api.Item) { it.Value = make([]byte, 200) })
		for range 9 {
			s.Use("d")
		}
		if e := s.Store(great, here); e != api.OK {
			t.Errorf("%s: Store(d) = %d", k.name, e)
		}
		wantDrops(t, s, "b", "c", "p", "q")
	}
}

// R3: what the caller does behind Do with what was handed in, and with what was answered, changes nothing of what the key has.
func TestValuesAreApart(t *testing.T) {
	for _, k := range all {
		for _, had := range [][]api.Item{nil, {kept()}} {
			s, twin := having(t, had...), having(t, had...)
			cmd, other := bare(k.op), bare(k.op)
			x := Do(s, cmd, here)
			Do(twin, other, here)
			if string(cmd.Value) != "5" {
				t.Errorf("%s changes what was handed in: %q", k.name, cmd.Value)
			}
			fill(cmd.Value)
			fill(x.Value)
			fill(x.Value[len(x.Value):cap(x.Value)])
			wantHas(t, s, slices.Collect(twin.All())...)
			y := Do(s, api.Cmd{Op: api.OMeta, Key: "k"}, here)
			if strings.Contains(string(y.Value), "!") {
				t.Errorf("%s: the value was changed: %q", k.name, y.Value)
			}
		}
	}
}

// R3: nothing is written behind the bytes that were handed in.
func TestBytesBehindAValue(t *testing.T) {
	for _, k := range all {
		s := having(t, kept())
		whole := []byte("5 and more")
		Do(s, api.Cmd{Op: k.op, Key: "k", Value: whole[:1]}, here)
		if string(whole) != "5 and more" {
			t.Errorf("%s: %q", k.name, whole)
		}
	}
}

// R3: what was answered stays as it was, whatever is done later.
func TestAnswersStay(t *testing.T) {
	s := having(t, kept())
	x := Do(s, bare(api.OGet), here)
	y := Do(s, bare(api.OMeta), here)
	for i, k := range all {
		cmd := bare(k.op)
		cmd.Makes = true
		Do(s, cmd, api.Env{Now: 100, Seq: uint64(50 + i)})
		if string(x.Value) != "30" || string(y.Value) != "30" {
			t.Errorf("%s: %q, %q", k.name, x.Value, y.Value)
		}
	}
	x = Do(s, api.Cmd{Op: api.OGet, Key: "k"}, here)
	y = Do(s, api.Cmd{Op: api.OGet, Key: "k"}, here)
	was := string(y.Value)
	fill(x.Value)
	if string(y.Value) != was {
		t.Error("two answers share their bytes")
	}
}

func fill(b []byte) {
	for i := range b {
		b[i] = '!'
	}
}

// P1: no command panics, whatever it tells, and wherever it is executed.
func TestAnyArguments(t *testing.T) {
	numbers := []int{math.MinInt, -1, 0, 1, month, month + 1, math.MaxInt}
	ops := slices.Clone(strangers)
	for _, k := range all {
		ops = append(ops, k.op)
	}
	for _, budget := range []int{math.MinInt, 0, 64, math.MaxInt} {
		for _, op := range ops {
			s := shard.New(1, budget, 1)
			for _, exp := range numbers {
				for _, now := range numbers {
					for _, key := range []string{"", "k", strings.Repeat("k", 3000)} {
						cmd := full(op, key)
						cmd.Exp, cmd.CAS = exp, 0
						env := api.Env{Now: now, Seq: uint64(now), Flush: exp, FlushSeq: uint64(exp)}
						Do(s, cmd, env)
						Do(s, api.Cmd{Op: api.OSet, Key: key, Exp: exp}, env)
						Do(s, cmd, env)
						if s.Used() > max(budget, 0) {
							t.Fatalf("Used() = %d of %d", s.Used(), budget)
						}
					}
				}
			}
		}
	}
}
