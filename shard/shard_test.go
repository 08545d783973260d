package shard

import (
	"bytes"
	"fmt"
	"math"
	"reflect"
	"slices"
	"strconv"
	"strings"
	"testing"

	"buttery/api"
)

// first is an env in which all that has no end, or a later one than 10, lives.
var first = api.Env{Now: 10}

const maxSize = 2048 // of the greatest class

func sameItem(a, b api.Item) bool {
	same := bytes.Equal(a.Value, b.Value)
	a.Value, b.Value = nil, nil
	return same && reflect.DeepEqual(a, b)
}

func shown(it api.Item) string { return fmt.Sprintf("%.30q: %+v", it.Key, it) }

func showAll(items []api.Item) string {
	var l []string
	for _, it := range items {
		l = append(l, shown(it))
	}
	return strings.Join(l, "; ")
}

// valued is an item with a value of so many bytes, and numbers of its own.
func valued(key string, many int) api.Item {
	return api.Item{Key: key, Value: bytes.Repeat([]byte("v"), many), Flags: 3, CAS: 5, Sec: 7, Seq: 8}
}

// sized is an item of that Size, which is its class's affair alone.
func sized(key string, size int) api.Item { return valued(key, size-50-len(key)) }

// ended is an item that does not live in first.
func ended(key string, size int) api.Item {
	it := sized(key, size)
	it.Exp = 10
	return it
}

func letters(keys string) []string { return strings.Split(keys, "") }

func wantStore(t *testing.T, s *Shard, it api.Item, want api.Errno) {
	t.Helper()
	if e := s.Store(it, first); e != want {
		t.Errorf("Store(%.30q) = %d; want %d", it.Key, e, want)
	}
}

// storeEach stores items of which some may have ended: nothing is found to do so in the second in which they are stored.
func storeEach(t *testing.T, s *Shard, items ...api.Item) {
	t.Helper()
	for _, it := range items {
		if e := s.Store(it, api.Env{Now: 1}); e != api.OK {
			t.Fatalf("Store(%.30q) = %d", it.Key, e)
		}
	}
}

func wantUpdate(t *testing.T, s *Shard, it api.Item, want api.Errno) {
	t.Helper()
	if e := s.Update(it); e != want {
		t.Errorf("Update(%.30q) = %d; want %d", it.Key, e, want)
	}
}

func wantRemove(t *testing.T, s *Shard, key string, want bool) {
	t.Helper()
	if had := s.Remove(key); had != want {
		t.Errorf("Remove(%.30q) = %t; want %t", key, had, want)
	}
}

func wantLook(t *testing.T, s *Shard, env api.Env, want api.Item) {
	t.Helper()
	if it, is := s.Look(want.Key, env); !is || !sameItem(it, want) {
		t.Errorf("Look = %s, %t; want %s", shown(it), is, shown(want))
	}
}

func wantNone(t *testing.T, s *Shard, key string, env api.Env) {
	t.Helper()
	if it, is := s.Look(key, env); is || !sameItem(it, api.Item{}) {
		t.Errorf("Look(%.30q) = %s, %t", key, shown(it), is)
	}
}

func wantDrops(t *testing.T, s *Shard, keys ...string) {
	t.Helper()
	if drops := s.Drops(); !slices.Equal(drops, keys) {
		t.Errorf("Drops() = %q; want %q", drops, keys)
	}
}

// wantHas asks for all items, in order, and for what is counted of them.
func wantHas(t *testing.T, s *Shard, items ...api.Item) {
	t.Helper()
	if told := slices.Collect(s.All()); !slices.EqualFunc(told, items, sameItem) {
		t.Errorf("All: %s; want %s", showAll(told), showAll(items))
	}
	used := 0
	for _, it := range items {
		used += takes(it)
	}
	if s.Used() != used || s.Len() != len(items) {
		t.Errorf("Used %d, Len %d; want %d, %d", s.Used(), s.Len(), used, len(items))
	}
}

// wantOrder asks in which order a shard would give up its keys: all of them, for one item of its whole budget, of a key of which most is thought. It must be the last thing to be asked.
func wantOrder(t *testing.T, s *Shard, budget int, keys string) {
	t.Helper()
	const wanted = "wanted"
	for range 40 {
		s.Use(wanted)
	}
	wantDrops(t, s)
	wantStore(t, s, sized(wanted, budget), api.OK)
	wantDrops(t, s, letters(keys)...)
	wantHas(t, s, sized(wanted, budget))
}

// filled is a shard that has items of 64 bytes, and no room for more: 2, 4 or 8 of them.
func filled(t *testing.T, protect int, keys string) *Shard {
	t.Helper()
	s := New(1, 64*len(keys), protect)
	for _, key := range letters(keys) {
		storeEach(t, s, small(key))
	}
	return s
}

// small is an item of 64 bytes.
func small(key string) api.Item { return sized(key, 64) }

func smalls(keys string) []api.Item {
	var l []api.Item
	for _, key := range letters(keys) {
		l = append(l, small(key))
	}
	return l
}

func useEach(s *Shard, keys string) {
	for _, key := range letters(keys) {
		s.Use(key)
	}
}

// P11.1 to P11.3: the chapter's example.
func TestTheExample(t *testing.T) {
	s := New(1, 128, 1)
	wantStore(t, s, api.Item{Key: "a"}, api.OK)
	wantStore(t, s, api.Item{Key: "b"}, api.OK)
	if s.Used() != 128 {
		t.Errorf("Used() = %d", s.Used())
	}
	wantStore(t, s, api.Item{Key: "c"}, api.ErrLost)
	wantDrops(t, s)
	wantHas(t, s, api.Item{Key: "a"}, api.Item{Key: "b"})
	s.Use("c")
	s.Use("c")
	wantStore(t, s, api.Item{Key: "c"}, api.OK)
	wantDrops(t, s, "a")
	wantHas(t, s, api.Item{Key: "b"}, api.Item{Key: "c"})
}

// P11.1
func TestNoItems(t *testing.T) {
	for _, budget := range []int{math.MinInt, -1, 0, 63, 64, 1000, math.MaxInt} {
		for _, protect := range []int{math.MinInt, -1, 0, 1, math.MaxInt} {
			for _, seed := range []uint64{0, 1, math.MaxUint64} {
				s := New(seed, budget, protect)
				wantHas(t, s)
				wantDrops(t, s)
				for _, key := range []string{"", "a"} {
					wantNone(t, s, key, first)
					wantRemove(t, s, key, false)
					wantUpdate(t, s, api.Item{Key: key}, api.ErrNone)
					s.Use(key)
				}
				wantHas(t, s)
				wantDrops(t, s)
			}
		}
	}
}

// P11.1, P11.3: nothing has room in a budget of less than a chunk, and nothing is there that could be given up.
func TestBudgetsWithoutRoom(t *testing.T) {
	for _, budget := range []int{math.MinInt, math.MinInt + 1, -2048, -64, -1, 0, 1, 50, 63} {
		s := New(1, budget, 1)
		for _, it := range []api.Item{{}, {Key: "a"}, sized("a", 64), sized("b", 65), sized("c", maxSize)} {
			s.Use(it.Key)
			wantStore(t, s, it, api.ErrFull)
			wantNone(t, s, it.Key, first)
			wantHas(t, s)
		}
		wantStore(t, s, sized("d", maxSize+1), api.ErrLong)
		wantDrops(t, s)
	}
}

// P11.1, P11.3: a budget of just one chunk, of each class.
func TestBudgetsOfOneChunk(t *testing.T) {
	for _, size := range []int{64, 128, 256, 512, 1024, 2048} {
		s := New(1, size, 1)
		wantStore(t, s, sized("a", size), api.OK)
		wantHas(t, s, sized("a", size))
		wantStore(t, s, sized("a", size), api.OK)
		wantStore(t, s, sized("b", size), api.ErrLost)
		wantStore(t, s, sized("b", 51), api.ErrLost)
		s.Use("b")
		wantStore(t, s, sized("b", size), api.OK)
		wantDrops(t, s, "a")
		wantHas(t, s, sized("b", size))
		if size < maxSize {
			wantStore(t, s, sized("b", size+1), api.ErrFull)
			wantStore(t, s, sized("c", size+1), api.ErrLost)
			wantHas(t, s, sized("b", size))
		}
		less := New(1, size-1, 1)
		wantStore(t, less, sized("a", size), api.ErrFull)
		wantHas(t, less)
	}
}

// P11.1: chunks take the Bytes of their class, and the greatest budget has room for all.
func TestUsed(t *testing.T) {
	for _, budget := range []int{4032, 4033, math.MaxInt - 1, math.MaxInt} {
		s := New(1, budget, 1)
		used := 0
		for i, c := range []struct{ size, takes int }{{64, 64}, {65, 128}, {129, 256}, {512, 512}, {513, 1024}, {1025, 2048}} {
			wantStore(t, s, sized(string(rune('a'+i)), c.size), api.OK)
			used += c.takes
			if s.Used() != used || s.Len() != i+1 {
				t.Errorf("Used() = %d, Len() = %d; want %d, %d", s.Used(), s.Len(), used, i+1)
			}
		}
		wantDrops(t, s)
	}
}

// P11.1: some are protected, and given up last, or none.
func TestProtected(t *testing.T) {
	for _, c := range []struct {
		protect    int
		used, want string
	}{
		{math.MinInt, "a", "bcda"}, {-1, "a", "bcda"}, {0, "a", "bcda"}, {0, "ba", "cdba"}, {0, "", "abcd"}, {0, "aab", "cdab"},
		{1, "a", "bcda"}, {1, "ab", "cdab"}, {1, "aba", "cdba"}, {2, "ab", "cdab"}, {2, "aba", "cdba"}, {2, "abc", "dabc"}, {4, "dcba", "dcba"}, {math.MaxInt, "b", "acdb"},
	} {
		s := filled(t, c.protect, "abcd")
		useEach(s, c.used)
		wantOrder(t, s, 256, c.want)
	}
}

// P11.1, P11.3: what is stored behind a Use is on trial, and goes ahead of what is protected alone; with none protected it comes behind.
func TestProtectedStay(t *testing.T) {
	for _, c := range []struct {
		protect int
		want    string
	}{{0, "bacd"}, {1, "bcda"}} {
		s := New(1, 256, c.protect)
		storeEach(t, s, smalls("ab")...)
		s.Use("a")
		storeEach(t, s, smalls("cd")...)
		wantOrder(t, s, 256, c.want)
	}
}

// P11.1: by rising keys, byte by byte, in whatever order they came.
func TestAllRises(t *testing.T) {
	keys := []string{"", "\x00", "\x00\x00", " ", "10", "9", "A", "B", "a", "a\x00", "aa", "ab", "b", "k", "z", "~", "\x7f", "\x80", "\u00e9", "\u4e16", "\xff", "\xff\x00"}
	slices.SortFunc(keys, func(a, b string) int { return bytes.Compare([]byte(a), []byte(b)) })
	var want []api.Item
	for _, key := range keys {
		want = append(want, valued(key, len(key)))
	}
	for turn := range len(keys) {
		s := New(uint64(turn), 64*len(keys), turn)
		for i := range want {
			storeEach(t, s, want[(i*5+turn)%len(want)])
			s.Use(keys[i*7%len(keys)])
		}
		wantHas(t, s, want...)
		wantDrops(t, s)
	}
}

// P11.1: All is left behind any item, and begun again.
func TestAllIsLeft(t *testing.T) {
	s := filled(t, 1, "dbca")
	all := s.All()
	for many := range 6 {
		var told []string
		for it := range all {
			told = append(told, it.Key)
			if len(told) == max(many, 1) {
				break
			}
		}
		if want := letters("abcd")[:min(max(many, 1), 4)]; !slices.Equal(told, want) {
			t.Errorf("told %q; want %q", told, want)
		}
		if told := slices.Collect(all); !slices.EqualFunc(told, smalls("abcd"), sameItem) {
			t.Errorf("begun again: %s", showAll(told))
		}
	}
	wantHas(t, s, smalls("abcd")...)
}

// P11.1: nobody is told anything behind the item at which he left.
func TestAllTellsNoMore(t *testing.T) {
	for most := 1; most < 5; most++ {
		many := 0
		filled(t, 1, "abcd").All()(func(api.Item) bool {
			many++
			return many < most
		})
		if many != most {
			t.Errorf("told %d; want %d", many, most)
		}
	}
}

// P11.1: the items themselves stay, whoever asks for them: All tells also what does not live, and drops nothing.
func TestAllDropsNothing(t *testing.T) {
	s := New(1, 1000, 1)
	storeEach(t, s, ended("b", 70), small("a"), ended("c", 51))
	for range 3 {
		wantHas(t, s, small("a"), ended("b", 70), ended("c", 51))
		wantDrops(t, s)
	}
}

// P11.1, R3: what All tells, told once or again, is the caller's own.
func TestToldItemsAreTheCallersOwn(t *testing.T) {
	s := filled(t, 1, "abcd")
	all := s.All()
	for range 3 {
		for it := range all {
			if !sameItem(it, small(it.Key)) {
				t.Errorf("told %s", shown(it))
			}
			clear(it.Value)
			_ = append(it.Value[:0], "changed"...)
			it.Key, it.Exp, it.Stale = "changed", 1, true
		}
		wantHas(t, s, smalls("abcd")...)
	}
}

// P11.1, R3: what All answered stays, whatever becomes of the shard, even while it is told.
func TestAllStays(t *testing.T) {
	s := filled(t, 1, "abcd")
	all := s.All()
	var told []api.Item
	for it := range all {
		told = append(told, it)
		changed := small("c")
		changed.Value[0], changed.Flags = 'c', 99
		s.Remove("b")
		s.Update(changed)
		s.Store(ended("d", 51), first)
		s.Store(sized("e", 52), first)
		s.Look("d", first)
	}
	for _, l := range [][]api.Item{told, slices.Collect(all)} {
		if !slices.EqualFunc(l, smalls("abcd"), sameItem) {
			t.Errorf("told %s", showAll(l))
		}
	}
}

// P11.1: Drops are told once, in the order in which they were dropped.
func TestDropsAreToldOnce(t *testing.T) {
	s := filled(t, 1, "dbca")
	useEach(s, "xx")
	wantStore(t, s, sized("x", 128), api.OK)
	useEach(s, "yyy")
	wantStore(t, s, sized("y", 65), api.OK)
	wantDrops(t, s, "d", "b", "c", "a")
	for range 3 {
		wantDrops(t, s)
	}
	useEach(s, "zzzz")
	wantStore(t, s, small("z"), api.OK)
	wantDrops(t, s, "x")
	wantDrops(t, s)
}

// P11.1: a key may be one of the Drops more than once, if it was stored anew between.
func TestDroppedAgain(t *testing.T) {
	s := New(1, 1000, 1)
	for range 3 {
		storeEach(t, s, ended("a", 60), ended("b", 60))
		wantNone(t, s, "b", first)
		wantNone(t, s, "a", first)
	}
	wantDrops(t, s, letters("bababa")...)
}

// P11.1, R3: the caller may do with the Drops what he likes.
func TestDropsAreTheCallersOwn(t *testing.T) {
	s := New(1, 1000, 1)
	storeEach(t, s, ended("a", 60), ended("b", 60), ended("c", 60), ended("d", 60))
	wantNone(t, s, "a", first)
	wantNone(t, s, "b", first)
	drops := s.Drops()
	drops[0] = "changed"
	_ = append(drops[:0], "changed", "too", "and", "more")
	wantNone(t, s, "c", first)
	wantNone(t, s, "d", first)
	kept := s.Drops()
	drops = append(drops[:0], "once", "more")
	if !slices.Equal(kept, letters("cd")) {
		t.Errorf("Drops() = %q", kept)
	}
	storeEach(t, s, ended("e", 60))
	wantNone(t, s, "e", first)
	if !slices.Equal(kept, letters("cd")) || !slices.Equal(drops, []string{"once", "more"}) {
		t.Errorf("%q, %q", kept, drops)
	}
	wantDrops(t, s, "e")
}

// P11.2
func TestLook(t *testing.T) {
	s := New(1, 1000, 1)
	it := api.Item{Key: "a", Value: []byte("value"), Flags: math.MaxUint32, Exp: 11, CAS: 1 << 60, Sec: 9, Seq: 1 << 61, Stale: true, Won: true, Seen: true}
	none := api.Item{Key: "", Exp: 0}
	wantStore(t, s, it, api.OK)
	wantStore(t, s, none, api.OK)
	for range 3 {
		wantLook(t, s, first, it)
		wantLook(t, s, first, none)
		for _, key := range []string{"b", "A", "aa", "a ", "\x00"} {
			wantNone(t, s, key, first)
		}
	}
	wantHas(t, s, none, it)
	wantDrops(t, s)
}

// P11.2: by its end, and by a flush: what does not live is one of the Drops, once, and takes nothing any more.
func TestLookAtWhatDoesNotLive(t *testing.T) {
	for _, c := range []struct {
		it    api.Item
		env   api.Env
		lives bool
	}{
		{api.Item{Exp: 11}, api.Env{Now: 10}, true}, {api.Item{Exp: 11}, api.Env{Now: 11}, false}, {api.Item{Exp: 11}, api.Env{Now: 12}, false}, {api.Item{Exp: -1}, api.Env{Now: 1}, false},
		{api.Item{Sec: 5, Seq: 7}, api.Env{Now: 9, Flush: 6}, false}, {api.Item{Sec: 6, Seq: 7}, api.Env{Now: 9, Flush: 6, FlushSeq: 8}, false}, {api.Item{Sec: 6, Seq: 8}, api.Env{Now: 9, Flush: 6, FlushSeq: 8}, true},
		{api.Item{Sec: 5, Seq: 7}, api.Env{Now: 9, Flush: 10}, true}, {api.Item{Sec: 5, Seq: 7}, api.Env{Now: 10, Flush: 10}, false}, {api.Item{Exp: 20, Sec: 5}, api.Env{Now: 10, Flush: 6}, false}, {api.Item{Exp: 20, Sec: 7}, api.Env{Now: 20, Flush: 6}, false},
	} {
		s := New(1, 1000, 1)
		c.it.Key, c.it.Value = "k", []byte("value")
		storeEach(t, s, c.it, small("other"))
		if c.lives {
			wantLook(t, s, c.env, c.it)
			wantDrops(t, s)
			wantHas(t, s, c.it, small("other"))
			continue
		}
		wantNone(t, s, "k", c.env)
		wantHas(t, s, small("other"))
		wantNone(t, s, "k", c.env)
		wantNone(t, s, "k", api.Env{Now: 1})
		wantDrops(t, s, "k")
		wantDrops(t, s)
		wantRemove(t, s, "k", false)
		wantUpdate(t, s, c.it, api.ErrNone)
		wantStore(t, s, small("k"), api.OK)
		wantLook(t, s, first, small("k"))
	}
}

// P11.2: what was dropped stands in the list no more: it is no Victim, and comes last when it is stored anew.
func TestDroppedLeavesTheList(t *testing.T) {
	s := New(1, 256, 4)
	storeEach(t, s, ended("a", 64), small("b"), small("c"), small("d"))
	s.Use("a")
	wantNone(t, s, "a", first)
	wantDrops(t, s, "a")
	storeEach(t, s, small("a"))
	wantOrder(t, s, 256, "bcda")
}

// P11.2: a Look alone is no Use.
func TestLookIsNoUse(t *testing.T) {
	s := filled(t, 2, "abcd")
	for range 20 {
		wantLook(t, s, first, small("a"))
		wantNone(t, s, "x", first)
	}
	wantStore(t, s, small("x"), api.ErrLost)
	s.Use("x")
	wantStore(t, s, small("x"), api.OK)
	wantDrops(t, s, "a")
	wantOrder(t, s, 256, "bcdx")
}

// P11.2: the judge is told of a key that is there, and the list too.
func TestUseOfAKeyThatIsThere(t *testing.T) {
	s := filled(t, 1, "abcd")
	useEach(s, "aabbcd")
	s.Use("x")
	wantStore(t, s, small("x"), api.ErrLost)
	s.Use("x")
	wantStore(t, s, small("x"), api.ErrLost)
	s.Use("x")
	wantStore(t, s, small("x"), api.OK)
	wantDrops(t, s, "a")
	wantOrder(t, s, 256, "bcxd")
}

// P11.2: of a key that is not there the judge alone is told: no item comes of it, and no place in the list.
func TestUseOfAKeyThatIsNotThere(t *testing.T) {
	s := filled(t, 4, "abcd")
	for range 5 {
		s.Use("x")
		wantHas(t, s, smalls("abcd")...)
		wantNone(t, s, "x", first)
	}
	wantStore(t, s, small("x"), api.OK)
	wantDrops(t, s, "a")
	wantOrder(t, s, 256, "bcdx")
}

// P11.2: a Use finds nothing that has ended.
func TestUseDropsNothing(t *testing.T) {
	s := New(1, 1000, 1)
	storeEach(t, s, ended("a", 64))
	useEach(s, "aaa")
	wantHas(t, s, ended("a", 64))
	wantDrops(t, s)
}

// P11.3: the greatest Size that has a class, by its value, and by its key.
func TestStoreOfTheGreatestSize(t *testing.T) {
	for _, key := range []string{"", "k", strings.Repeat("k", 250), strings.Repeat("k", 1998)} {
		s := New(1, 4096, 1)
		wantStore(t, s, sized(key, maxSize), api.OK)
		wantHas(t, s, sized(key, maxSize))
		wantLook(t, s, first, sized(key, maxSize))
		wantStore(t, s, sized(key, maxSize+1), api.ErrLong)
		wantStore(t, s, valued(key, 1<<20), api.ErrLong)
		wantStore(t, s, valued(strings.Repeat("k", 1999), 0), api.ErrLong)
		wantHas(t, s, sized(key, maxSize))
		wantDrops(t, s)
	}
}

// P11.3, R2: ErrLong goes ahead of all else: nothing is dropped ahead of it, not even an item of that key that does not live.
func TestLongAheadOfAllElse(t *testing.T) {
	s := New(1, 128, 1)
	storeEach(t, s, ended("a", 64), ended("b", 64))
	for _, key := range []string{"a", "b", "c"} {
		useEach(s, "ccc")
		wantStore(t, s, sized(key, maxSize+1), api.ErrLong)
		wantDrops(t, s)
		wantHas(t, s, ended("a", 64), ended("b", 64))
	}
	none := New(1, 0, 1)
	wantStore(t, none, sized("a", maxSize+1), api.ErrLong)
}

// P11.3: each Size takes the chunk of its class, that of the key's bytes and the value's together.
func TestStoreOfEachSize(t *testing.T) {
	for size := 51; size <= maxSize; size++ {
		s := New(1, maxSize, 1)
		wantStore(t, s, sized("k", size), api.OK)
		wantHas(t, s, sized("k", size))
	}
}

// P11.3: a key whose item does not live: that is dropped, and it is a new one, last in the list.
func TestStoreOfWhatDoesNotLive(t *testing.T) {
	for _, size := range []int{51, 64, 65, 128, 129, 256} {
		s := New(1, 1000, 1)
		storeEach(t, s, ended("a", size), small("b"), small("c"))
		s.Use("a")
		wantStore(t, s, small("a"), api.OK)
		wantDrops(t, s, "a")
		wantHas(t, s, smalls("abc")...)
		wantLook(t, s, first, small("a"))
	}
	s := New(1, 256, 2)
	storeEach(t, s, ended("a", 64), small("b"), small("c"), small("d"))
	useEach(s, "a")
	wantStore(t, s, small("a"), api.OK)
	wantDrops(t, s, "a")
	wantOrder(t, s, 256, "bcda")
}

// P11.3: that one's chunk is let go first, so that nobody else need go; but it is judged as a new one.
func TestStoreOfWhatDoesNotLiveWithoutRoom(t *testing.T) {
	s := New(1, 192, 1)
	storeEach(t, s, small("a"), small("b"), ended("c", 64))
	wantStore(t, s, sized("c", 65), api.ErrLost)
	wantDrops(t, s, "c")
	wantHas(t, s, smalls("ab")...)
	wantStore(t, s, small("c"), api.OK)
	wantStore(t, s, sized("c", 65), api.OK)
	wantDrops(t, s, "a")
	wantHas(t, s, small("b"), sized("c", 65))

	used := New(1, 192, 1)
	storeEach(t, used, small("a"), small("b"), ended("c", 64))
	useEach(used, "c")
	wantStore(t, used, sized("c", 65), api.OK)
	wantDrops(t, used, "c", "a")
	wantHas(t, used, small("b"), sized("c", 65))
}

// P11.3: what is dropped stays so, with each error.
func TestWhatWasDroppedStaysSo(t *testing.T) {
	s := New(1, 200, 1)
	storeEach(t, s, ended("a", 64), small("b"), small("c"))
	wantStore(t, s, sized("a", 257), api.ErrLost)
	wantDrops(t, s, "a")
	wantHas(t, s, smalls("bc")...)
	wantStore(t, s, sized("b", 257), api.ErrFull)
	wantDrops(t, s, "c")
	wantHas(t, s, small("b"))
	useEach(s, "xx")
	wantStore(t, s, sized("x", 257), api.ErrFull)
	wantDrops(t, s, "b")
	wantHas(t, s)
}

// P11.3: a key that has an item, and room for another value: of the same class, of lesser and of greater ones.
func TestStoreAgainWithRoom(t *testing.T) {
	sizes := []int{51, 64, 65, 128, 129, 256, 257, 512, 513, 1024, 1025, 2048}
	for _, old := range sizes {
		for _, size := range sizes {
			s := New(1, 64+takes(sized("a", max(old, size))), 1)
			storeEach(t, s, sized("a", old), small("b"))
			again := sized("a", size)
			again.Flags, again.Exp, again.CAS, again.Sec, again.Seq, again.Won = 1, 20, 2, 3, 4, true
			wantStore(t, s, again, api.OK)
			wantHas(t, s, again, small("b"))
			wantLook(t, s, first, again)
			wantDrops(t, s)
		}
	}
}

// P11.3: a budget of just the greater chunk is enough, as the other one is let go first.
func TestStoreAgainInTheWholeBudget(t *testing.T) {
	for _, old := range []int{64, 128, 256, 512, 1024, 2048} {
		for _, size := range []int{64, 128, 256, 512, 1024, 2048} {
			s := New(1, max(old, size), 0)
			storeEach(t, s, sized("a", old))
			wantStore(t, s, sized("a", size), api.OK)
			wantHas(t, s, sized("a", size))
			wantDrops(t, s)
		}
	}
}

// P11.3: with a lesser value others have room again.
func TestStoreAgainMakesRoom(t *testing.T) {
	s := New(1, 256, 1)
	storeEach(t, s, sized("a", 256))
	wantStore(t, s, small("b"), api.ErrLost)
	wantStore(t, s, sized("a", 128), api.OK)
	wantStore(t, s, small("b"), api.OK)
	wantStore(t, s, small("c"), api.OK)
	wantStore(t, s, small("d"), api.ErrLost)
	wantStore(t, s, small("a"), api.OK)
	wantStore(t, s, small("d"), api.OK)
	wantHas(t, s, smalls("abcd")...)
	wantDrops(t, s)
}

// P11.3: a key that has an item, without room for a greater value: others go, in order, whatever they are worth, and never itself.
func TestStoreAgainWithoutRoom(t *testing.T) {
	for _, c := range []struct {
		key   string
		size  int
		drops string
		left  string
	}{
		{"a", 64, "", "bcd"}, {"a", 65, "b", "cd"}, {"a", 128, "b", "cd"}, {"a", 129, "bcd", ""}, {"a", 256, "bcd", ""},
		{"b", 128, "a", "cd"}, {"c", 128, "a", "bd"}, {"d", 128, "a", "bc"}, {"d", 256, "abc", ""}, {"c", 256, "abd", ""},
	} {
		s := filled(t, 4, "abcd")
		for range 9 {
			useEach(s, "abcd")
		}
		wantStore(t, s, sized(c.key, c.size), api.OK)
		wantDrops(t, s, letters(c.drops)...)
		want := append(smalls(c.left), sized(c.key, c.size))
		slices.SortFunc(want, func(a, b api.Item) int { return strings.Compare(a.Key, b.Key) })
		wantHas(t, s, want...)
	}
}

// P11.3: it stays where it was in the list, on trial and protected.
func TestStoreAgainKeepsItsPlace(t *testing.T) {
	for _, key := range letters("abcd") {
		s := filled(t, 2, "abcd")
		useEach(s, "bd")
		for _, size := range []int{51, 64, 52} {
			wantStore(t, s, sized(key, size), api.OK)
		}
		wantOrder(t, s, 256, "acbd")
	}
	s := New(1, 512, 1)
	storeEach(t, s, smalls("abcd")...)
	wantStore(t, s, sized("b", 256), api.OK)
	wantStore(t, s, sized("b", 64), api.OK)
	wantStore(t, s, sized("b", 129), api.OK)
	wantOrder(t, s, 512, "abcd")
}

// P11.3: where nobody else is left.
func TestFull(t *testing.T) {
	for _, size := range []int{129, 256, 257, 2048} {
		s := New(1, 128, 1)
		wantStore(t, s, sized("a", size), api.ErrFull)
		wantHas(t, s)
		wantDrops(t, s)
		storeEach(t, s, small("a"))
		wantStore(t, s, sized("a", size), api.ErrFull)
		wantHas(t, s, small("a"))
		wantLook(t, s, first, small("a"))
		wantDrops(t, s)
	}
}

// P11.3: ErrFull keeps the item that the key has, though all others went for it.
func TestFullKeepsWhatTheKeyHas(t *testing.T) {
	s := filled(t, 1, "abcd")
	useEach(s, "c")
	wantStore(t, s, sized("b", 257), api.ErrFull)
	wantDrops(t, s, "a", "d", "c")
	wantHas(t, s, small("b"))
	wantLook(t, s, first, small("b"))
	wantStore(t, s, sized("b", 256), api.OK)
	wantHas(t, s, sized("b", 256))
}

// P11.3: a Victim that lives and is worth more, as much, and less.
func TestLost(t *testing.T) {
	for old := range 5 {
		for many := range 5 {
			s := filled(t, 2, "ab")
			useEach(s, strings.Repeat("a", old))
			useEach(s, strings.Repeat("b", old))
			useEach(s, strings.Repeat("x", many))
			if many > old {
				wantStore(t, s, small("x"), api.OK)
				wantDrops(t, s, "a")
				wantHas(t, s, smalls("bx")...)
				continue
			}
			wantStore(t, s, small("x"), api.ErrLost)
			wantDrops(t, s)
			wantNone(t, s, "x", first)
			wantHas(t, s, smalls("ab")...)
			wantOrder(t, s, 128, "ab")
		}
	}
}

// P11.3: the first in the list alone is asked about, though another one is worth less.
func TestTheVictimIsAskedAboutAlone(t *testing.T) {
	s := filled(t, 0, "abcd")
	useEach(s, "abcd"+"abcd"+"bcd"+"x")
	s.Use("x")
	wantStore(t, s, small("x"), api.ErrLost)
	s.Use("x")
	wantStore(t, s, small("x"), api.OK)
	wantDrops(t, s, "a")
	s.Use("y")
	wantStore(t, s, small("y"), api.ErrLost)
	wantHas(t, s, smalls("bcdx")...)
}

// P11.3: a Victim that does not live is dropped whatever it is worth, and whatever the new one is.
func TestVictimsThatDoNotLive(t *testing.T) {
	s := New(1, 256, 4)
	storeEach(t, s, ended("a", 64), ended("b", 64), small("c"), ended("d", 64))
	for range 5 {
		useEach(s, "abcd")
	}
	wantStore(t, s, small("x"), api.OK)
	wantDrops(t, s, "a")
	wantStore(t, s, small("y"), api.ErrLost) // x is the first now, and lives
	wantDrops(t, s)
	s.Use("x")
	wantStore(t, s, small("y"), api.OK)
	wantDrops(t, s, "b")
	s.Use("y")
	wantStore(t, s, small("z"), api.ErrLost) // c is the first now, and lives, ahead of d, which does not
	wantDrops(t, s)
	wantHas(t, s, small("c"), ended("d", 64), small("x"), small("y"))
}

// P11.3: of those that do not live just so many are dropped as must be, the first ones; then it goes by worth.
func TestSeveralAreDropped(t *testing.T) {
	for _, c := range []struct {
		size, uses int
		want       api.Errno
		drops      string
		left       string
	}{
		{64, 0, api.OK, "a", "bcdefgh"}, {65, 0, api.OK, "ab", "cdefgh"}, {128, 0, api.OK, "ab", "cdefgh"},
		{129, 0, api.ErrLost, "ab", "cdefgh"}, {129, 1, api.ErrLost, "ab", "cdefgh"}, {129, 2, api.OK, "abcd", "efgh"},
		{257, 2, api.ErrLost, "abcd", "efgh"}, {257, 3, api.ErrLost, "abcd", "efgh"}, {257, 4, api.OK, "abcdefgh", ""}, {512, 4, api.OK, "abcdefgh", ""},
		{513, 0, api.ErrLost, "ab", "cdefgh"}, {513, 4, api.ErrFull, "abcdefgh", ""},
	} {
		s := New(1, 512, 8)
		storeEach(t, s, ended("a", 64), ended("b", 64), small("c"), ended("d", 64))
		storeEach(t, s, smalls("efgh")...)
		useEach(s, strings.Repeat("abcdefgh", 1)+strings.Repeat("efgh", 2))
		useEach(s, strings.Repeat("x", c.uses))
		wantStore(t, s, sized("x", c.size), c.want)
		wantDrops(t, s, letters(c.drops)...)
		want := smalls(c.left)
		for i := range want {
			if strings.Contains("abd", want[i].Key) {
				want[i].Exp = 10
			}
		}
		if c.want == api.OK {
			want = append(want, sized("x", c.size))
		}
		wantHas(t, s, want...)
	}
}

// P11.3: by a flush likewise: all of them may go, whatever they are worth.
func TestFlushedVictims(t *testing.T) {
	s := filled(t, 2, "abcd")
	for range 5 {
		useEach(s, "abcd")
	}
	env := api.Env{Now: 10, Flush: 7, FlushSeq: 9} // small has the second 7, and the number 8
	for i, c := range []struct{ key, drop string }{{"w", "a"}, {"x", "b"}, {"y", "c"}, {"z", "d"}} {
		it := small(c.key)
		it.Seq = 9
		if e := s.Store(it, env); e != api.OK {
			t.Errorf("Store(%q) = %d", c.key, e)
		}
		s.Use(c.key)
		wantDrops(t, s, c.drop)
		if i == 3 {
			wantLook(t, s, env, it)
		}
	}
	wantStore(t, s, small("v"), api.ErrLost)
}

// P11.3: with room nobody is dropped, though he does not live, or the judge would not admit the new one.
func TestNoneIsDroppedWithRoom(t *testing.T) {
	s := New(1, 192, 1)
	storeEach(t, s, ended("a", 64), ended("b", 64))
	for range 5 {
		useEach(s, "ab")
	}
	wantStore(t, s, small("c"), api.OK)
	wantHas(t, s, ended("a", 64), ended("b", 64), small("c"))
	wantDrops(t, s)
}

// P11.3: an item that does not live where it is stored is stored all the same.
func TestStoreOfAnItemThatHasEnded(t *testing.T) {
	s := New(1, 192, 1)
	wantStore(t, s, ended("a", 64), api.OK)
	wantHas(t, s, ended("a", 64))
	wantDrops(t, s)
	wantNone(t, s, "a", first)
	wantDrops(t, s, "a")
}

// P11.3: an error leaves all that was not dropped as it was: the list, the judge, and the item that the key has.
func TestLostChangesNothing(t *testing.T) {
	s := filled(t, 2, "abcd")
	useEach(s, "b")
	for range 50 {
		wantStore(t, s, small("x"), api.ErrLost)
	}
	wantHas(t, s, smalls("abcd")...)
	wantStore(t, s, small("x"), api.ErrLost)
	wantOrder(t, s, 256, "acdb")
}

// P11.3: Store is no Use.
func TestStoreIsNoUse(t *testing.T) {
	s := filled(t, 2, "abcd")
	for range 20 {
		wantStore(t, s, small("a"), api.OK)
	}
	s.Use("x")
	wantStore(t, s, small("x"), api.OK)
	wantDrops(t, s, "a")
	wantOrder(t, s, 256, "bcdx")
}

// P11.4
func TestUpdate(t *testing.T) {
	s := New(1, 256, 2)
	storeEach(t, s, small("a"), sized("b", 128), sized("c", 50+1))
	for _, it := range []api.Item{
		{Key: "a", Value: bytes.Repeat([]byte("w"), 13), Flags: 9, Exp: 11, CAS: 12, Sec: 13, Seq: 14, Stale: true, Won: true, Seen: true},
		{Key: "a", Value: bytes.Repeat([]byte{0}, 13)},
		small("a"),
	} {
		wantUpdate(t, s, it, api.OK)
		wantHas(t, s, it, sized("b", 128), sized("c", 51))
		wantLook(t, s, first, it)
	}
	for _, value := range [][]byte{nil, {}} {
		it := api.Item{Key: "c", Value: value, Flags: 4, Won: true}
		wantUpdate(t, s, it, api.OK)
		wantHas(t, s, small("a"), sized("b", 128), it)
	}
	wantDrops(t, s)
}

// P11.4
func TestUpdateOfAKeyWithoutAnItem(t *testing.T) {
	s := filled(t, 2, "ab")
	for _, key := range []string{"", "c", "A", "aa"} {
		s.Use(key)
		wantUpdate(t, s, small(key), api.ErrNone)
		wantUpdate(t, s, valued(key, 5000), api.ErrNone)
		wantUpdate(t, s, api.Item{Key: key}, api.ErrNone)
		wantNone(t, s, key, first)
	}
	wantHas(t, s, smalls("ab")...)
	wantRemove(t, s, "a", true)
	wantUpdate(t, s, small("a"), api.ErrNone)
	wantHas(t, s, small("b"))
	wantDrops(t, s)
}

// P11.4: of another length, be it of the same class.
func TestUpdateOfAnotherLength(t *testing.T) {
	s := New(1, 1000, 2)
	storeEach(t, s, valued("a", 5), valued("b", 0))
	for _, many := range []int{0, 1, 4, 6, 13, 14, 100, 1997, 1998, 1 << 20} {
		it := valued("a", many)
		it.Flags, it.Exp = 99, 5
		wantUpdate(t, s, it, api.ErrArg)
		if many > 0 {
			wantUpdate(t, s, valued("b", many), api.ErrArg)
		}
	}
	wantHas(t, s, valued("a", 5), valued("b", 0))
	wantLook(t, s, first, valued("a", 5))
	wantDrops(t, s)
}

// P11.4: the length is that of the item that the key has now, behind another Store of it.
func TestUpdateBehindAnotherStore(t *testing.T) {
	s := New(1, 1000, 2)
	storeEach(t, s, valued("a", 5))
	wantStore(t, s, valued("a", 100), api.OK)
	wantUpdate(t, s, valued("a", 5), api.ErrArg)
	it := valued("a", 100)
	it.Flags = 77
	wantUpdate(t, s, it, api.OK)
	wantHas(t, s, it)
}

// P11.4: an Update is no Store: it needs no room, keeps the place in the list, and finds nothing that has ended.
func TestUpdateKeepsItsPlace(t *testing.T) {
	s := filled(t, 2, "abcd")
	useEach(s, "bd")
	for _, key := range letters("badcab") {
		wantUpdate(t, s, small(key), api.OK)
	}
	wantOrder(t, s, 256, "acbd")
	old := New(1, 64, 1)
	storeEach(t, old, ended("a", 64))
	wantUpdate(t, old, small("a"), api.OK)
	wantDrops(t, old)
	wantLook(t, old, first, small("a"))
}

// P11.4: an end that comes by an Update is one.
func TestUpdateOfTheEnd(t *testing.T) {
	s := New(1, 1000, 1)
	storeEach(t, s, small("a"))
	wantUpdate(t, s, ended("a", 64), api.OK)
	wantLook(t, s, api.Env{Now: 9}, ended("a", 64))
	wantNone(t, s, "a", first)
	wantDrops(t, s, "a")
	wantHas(t, s)
}

// P11.4: whose item is removed has none, and that is no drop.
func TestRemove(t *testing.T) {
	for _, key := range letters("abcd") {
		s := filled(t, 2, "abcd")
		useEach(s, "bc")
		wantRemove(t, s, key, true)
		left := strings.ReplaceAll("abcd", key, "")
		for range 2 {
			wantHas(t, s, smalls(left)...)
			wantNone(t, s, key, first)
			wantRemove(t, s, key, false)
			wantUpdate(t, s, small(key), api.ErrNone)
			wantDrops(t, s)
		}
		wantStore(t, s, small("x"), api.OK) // there is room for it
		wantDrops(t, s)
		wantOrder(t, s, 256, strings.ReplaceAll("ad", key, "")+"x"+strings.ReplaceAll("bc", key, ""))
	}
}

// P11.4
func TestRemoveOfAKeyWithoutAnItem(t *testing.T) {
	s := filled(t, 2, "abcd")
	s.Use("x")
	for _, key := range []string{"", "x", "A", "ab", "a\x00"} {
		wantRemove(t, s, key, false)
	}
	wantHas(t, s, smalls("abcd")...)
	wantDrops(t, s)
}

// P11.4: an item that does not live is one that the key had.
func TestRemoveOfWhatDoesNotLive(t *testing.T) {
	s := New(1, 1000, 1)
	storeEach(t, s, ended("a", 64))
	wantRemove(t, s, "a", true)
	wantNone(t, s, "a", first)
	wantHas(t, s)
	wantDrops(t, s)
}

// P11.4: who is stored anew behind a Remove is last in the list; what he is worth stays.
func TestStoreBehindARemove(t *testing.T) {
	s := filled(t, 2, "abcd")
	useEach(s, "aaab")
	wantRemove(t, s, "a", true)
	wantStore(t, s, small("a"), api.OK)
	s.Use("x")
	wantStore(t, s, sized("x", 129), api.ErrLost) // c and d go for it, but a does not
	wantDrops(t, s, "c", "d")
	wantHas(t, s, smalls("ab")...)
}

// R3: a value that the caller changes behind a Store, an Update, or a Look.
func TestValuesAreTheShardsOwn(t *testing.T) {
	s := New(1, 1000, 1)
	it := small("a")
	wantStore(t, s, it, api.OK)
	clear(it.Value)
	wantLook(t, s, first, small("a"))

	again := sized("a", 100)
	wantStore(t, s, again, api.OK)
	clear(again.Value)
	wantLook(t, s, first, sized("a", 100))

	changed := sized("a", 100)
	changed.Value[0] = 'u'
	kept := bytes.Clone(changed.Value)
	wantUpdate(t, s, changed, api.OK)
	clear(changed.Value)
	for range 2 {
		found, is := s.Look("a", first)
		if !is || !bytes.Equal(found.Value, kept) {
			t.Errorf("Look = %s, %t", shown(found), is)
		}
		clear(found.Value)
		_ = append(found.Value[:1], "more"...)
	}
}

// R3: what was answered stays, whatever the shard does then; and what was handed in too.
func TestAnswersStay(t *testing.T) {
	s := New(1, 1000, 1)
	room := bytes.Repeat([]byte("v"), 40)
	it := api.Item{Key: "a", Value: room[:13:40]}
	wantStore(t, s, it, api.OK)
	found, _ := s.Look("a", first)
	other := api.Item{Key: "a", Value: bytes.Repeat([]byte("w"), 13)}
	wantUpdate(t, s, other, api.OK)
	wantStore(t, s, other, api.OK)
	wantRemove(t, s, "a", true)
	for _, value := range [][]byte{found.Value, it.Value, room[:13]} {
		if string(value) != strings.Repeat("v", 13) {
			t.Errorf("%q", value)
		}
	}
	if string(room) != strings.Repeat("v", 40) || string(other.Value) != strings.Repeat("w", 13) {
		t.Errorf("%q, %q", room, other.Value)
	}
}

// P1, R1: whatever is asked is answered.
func TestOddArguments(t *testing.T) {
	long := strings.Repeat("k", 100000)
	for _, budget := range []int{math.MinInt, -1, 0, 64, 100, 2048, 5000, math.MaxInt} {
		for _, protect := range []int{math.MinInt, 0, 1, math.MaxInt} {
			b := newBoth(t, math.MaxUint64, budget, protect)
			for _, now := range []int{0, math.MinInt, -1, 1, math.MaxInt} {
				for _, key := range []string{"", "\x00", "\xff\xfe", " ", "\r\n", strings.Repeat("k", 251), strings.Repeat("k", 1999), long} {
					for _, it := range []api.Item{{Key: key}, {Key: key, Value: make([]byte, 3000), Exp: now}, {Key: key, Value: make([]byte, 1001), Exp: math.MinInt, Sec: math.MaxInt, Seq: math.MaxUint64}} {
						for kind := range manyKinds {
							if !b.do(step{kind, it, api.Env{Now: now, Seq: math.MaxUint64, Flush: -now, FlushSeq: math.MaxUint64}}) {
								return
							}
						}
					}
				}
			}
		}
	}
}

// P11.1 to P11.5: all short rows of steps, in a budget of three chunks, of which none or all are in use.
func TestAllShortRows(t *testing.T) {
	const long = 4
	steps := []step{
		{aStore, small("a"), first}, {aStore, sized("a", 65), first}, {aStore, small("b"), first}, {aStore, ended("b", 64), first}, {aStore, small("c"), first}, {aStore, sized("c", 129), first},
		{aUse, small("a"), first}, {aUse, small("c"), first}, {aLook, small("b"), first}, {aRemove, small("a"), first}, {anUpdate, ended("a", 64), first},
	}
	rows := 1
	for range long {
		rows *= len(steps)
	}
	for code := range 2 * rows {
		b := newBoth(t, 1, 192, 1)
		for _, key := range letters("abd")[:code/rows*3] {
			b.do(step{aStore, small(key), first})
		}
		for i, rest := 0, code%rows; i < long; i, rest = i+1, rest/len(steps) {
			if !b.do(steps[rest%len(steps)]) {
				t.Fatalf("row %d, step %d", code, i)
			}
		}
	}
}

// chance is numbers that look as if by chance, the same ones each time.
type chance uint64

func (c *chance) below(n int) int {
	*c = *c*6364136223846793005 + 1442695040888963407
	return int(uint64(*c)>>33) % n
}

// someItem is one of some keys, the first ones more often, so that some are worth more.
func (c *chance) someItem(keys, sizes, now int) api.Item {
	it := valued(strconv.Itoa(c.below(c.below(keys)+1)), c.below(sizes))
	for i := range it.Value {
		it.Value[i] = byte('a' + c.below(26))
	}
	it.Flags, it.CAS, it.Sec, it.Stale, it.Won, it.Seen = uint32(c.below(9)), uint64(c.below(9)), now, c.below(2) == 0, c.below(2) == 0, c.below(2) == 0
	if c.below(4) == 0 {
		it.Exp = now + c.below(40)
	}
	return it
}

// P11.1 to P11.5, P5: many steps, while the clock goes on and all is flushed now and then, and all numbers of keys, sizes and budgets are mixed.
func TestManySteps(t *testing.T) {
	for _, c := range []struct{ seed, budget, protect, keys, sizes int }{
		{1, 192, 1, 6, 20}, {2, 1000, 3, 12, 300}, {3, 640, 0, 20, 13}, {4, 3000, 5, 30, 1900}, {5, 2048, 2, 9, 2100}, {6, 100000, 10, 60, 600}, {7, 64, -1, 4, 100}, {8, 4096, 50, 100, 90},
	} {
		r := chance(c.seed)
		b := newBoth(t, uint64(c.seed), c.budget, c.protect)
		env := api.Env{Now: 1}
		for seq := range uint64(6000) {
			env.Now += r.below(20) / 19
			env.Seq = seq
			if r.below(300) == 0 {
				env.Flush, env.FlushSeq = env.Now+r.below(3), seq
			}
			it := r.someItem(c.keys, c.sizes, env.Now)
			it.Seq = seq
			kind := []int{aStore, aStore, aStore, aStore, aLook, aLook, aUse, aUse, aUse, anUpdate, aRemove}[r.below(11)]
			if old, had := b.p.has[it.Key]; kind == anUpdate && had && r.below(4) > 0 {
				it.Value = bytes.Repeat([]byte("u"), len(old.Value))
			}
			if !b.do(step{kind, it, env}) {
				t.Fatalf("step %d of seed %d", seq, c.seed)
			}
		}
	}
}

// P11.5: the budget is met just so, and never passed, however classes are mixed.
func TestUsedStaysWithinTheBudget(t *testing.T) {
	for budget := 0; budget < 1200; budget += 37 {
		s := New(9, budget, 2)
		for i := range 300 {
			key := string(rune('a' + i%17))
			s.Use(key)
			e := s.Store(sized(key, 51+i*29%700), first)
			if used := s.Used(); used > budget || used < 0 {
				t.Fatalf("Used() = %d of %d", used, budget)
			}
			if _, is := s.Look(key, first); e == api.OK && !is {
				t.Fatalf("%q is not there behind a Store", key)
			}
		}
	}
}

// P11.1: seeds have a part in the judge's chance alone.
func TestSeeds(t *testing.T) {
	for seed := range uint64(50) {
		b := newBoth(t, seed*0x0123456789abcdef, 320, 2)
		r := chance(seed)
		for range 400 {
			if !b.do(step{r.below(manyKinds), r.someItem(12, 30, 1), first}) {
				t.Fatalf("seed %d", seed)
			}
		}
	}
}

// R5: shards know nothing of each other, and do the same when they are told the same.
func TestShardsAreApart(t *testing.T) {
	a, b, c := newBoth(t, 1, 256, 1), newBoth(t, 1, 256, 1), newBoth(t, 1, 128, 1)
	r := chance(3)
	for range 2000 {
		st := step{r.below(manyKinds), r.someItem(8, 60, 1), first}
		if !a.do(st) || !b.do(st) || r.below(3) == 0 && !c.do(st) {
			return
		}
	}
}
