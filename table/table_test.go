package table

import (
	"iter"
	"maps"
	"math"
	"slices"
	"strconv"
	"strings"
	"testing"

	"buttery/hash"
)

const greatest = math.MaxUint64

func seeds() []uint64 { return []uint64{0, 1, 7, 1 << 63, greatest - 1, greatest} }

// key is the n-th of many texts.
func key(n int) string { return "k" + strconv.Itoa(n) }

// told is a text and what it has, as All tells them.
type told[V any] struct {
	key   string
	value V
}

// plain is what a table is held against: a map, and the two numbers that P9.2 speaks of.
type plain struct {
	has           map[string]int
	buckets, left int
}

func newPlain() *plain { return &plain{has: map[string]int{}, buckets: 8} }

func (p *plain) move() { p.left = max(p.left-1, 0) }

func (p *plain) put(key string, v int) {
	p.move()
	p.has[key] = v
	if len(p.has) > 2*p.buckets && p.left == 0 {
		p.left = p.buckets
		p.buckets *= 2
	}
}

func (p *plain) get(key string) (int, bool) {
	p.move()
	v, is := p.has[key]
	return v, is
}

func (p *plain) delete(key string) bool {
	p.move()
	_, is := p.has[key]
	delete(p.has, key)
	return is
}

func (p *plain) all() []told[int] {
	var l []told[int]
	for _, key := range slices.Sorted(maps.Keys(p.has)) {
		l = append(l, told[int]{key, p.has[key]})
	}
	return l
}

func collect[V any](all iter.Seq2[string, V]) []told[V] {
	var l []told[V]
	for key, v := range all {
		l = append(l, told[V]{key, v})
	}
	return l
}

func wantGet[V comparable](t *testing.T, m *Table[V], key string, want V, wantIs bool) {
	t.Helper()
	if v, is := m.Get(key); v != want || is != wantIs {
		t.Errorf("Get(%.20q) = %v, %t; want %v, %t", key, v, is, want, wantIs)
	}
}

func wantDelete[V any](t *testing.T, m *Table[V], key string, want bool) {
	t.Helper()
	if had := m.Delete(key); had != want {
		t.Errorf("Delete(%.20q) = %t; want %t", key, had, want)
	}
}

func wantTold[V comparable](t *testing.T, all iter.Seq2[string, V], want []told[V]) {
	t.Helper()
	l := collect(all)
	if len(l) != len(want) {
		t.Fatalf("%d texts are told; want %d", len(l), len(want))
	}
	for n := range l {
		if l[n] != want[n] {
			t.Fatalf("text %d is %.20q with %v; want %.20q with %v", n, l[n].key, l[n].value, want[n].key, want[n].value)
		}
	}
}

func wantCounts[V any](t *testing.T, m *Table[V], many, buckets, left int) {
	t.Helper()
	if m.Len() != many || m.Buckets() != buckets || m.Left() != left {
		t.Errorf("Len, Buckets, Left = %d, %d, %d; want %d, %d, %d", m.Len(), m.Buckets(), m.Left(), many, buckets, left)
	}
}

// wantPlain asks for all that a table tells without being moved on.
func wantPlain(t *testing.T, m *Table[int], p *plain) {
	t.Helper()
	wantCounts(t, m, len(p.has), p.buckets, p.left)
	wantTold(t, m.All(), p.all())
	wantCounts(t, m, len(p.has), p.buckets, p.left)
}

// filled is a table with the first so many texts, each with its number.
func filled(seed uint64, many int) *Table[int] {
	m := New[int](seed)
	for n := range many {
		m.Put(key(n), n)
	}
	return m
}

// P9.2: the chapter's example.
func TestTheExample(t *testing.T) {
	m := filled(0, 17)
	wantCounts(t, m, 17, 16, 8)
	wantGet(t, m, key(3), 3, true)
	wantCounts(t, m, 17, 16, 7)
}

// P9.1
func TestNoTexts(t *testing.T) {
	for _, seed := range seeds() {
		m := New[int](seed)
		wantPlain(t, m, newPlain())
		for _, key := range []string{"", "a", "\x00", "\xff", "not there"} {
			wantGet(t, m, key, 0, false)
			wantDelete(t, m, key, false)
			wantPlain(t, m, newPlain())
		}
	}
}

// P9.1: behind each call of a written-out row of them.
func TestPutGetDelete(t *testing.T) {
	m := New[string](1)
	wantCounts(t, m, 0, 8, 0)
	m.Put("a", "one")
	wantCounts(t, m, 1, 8, 0)
	wantGet(t, m, "a", "one", true)
	wantGet(t, m, "b", "", false)
	m.Put("b", "two")
	wantCounts(t, m, 2, 8, 0)
	wantGet(t, m, "a", "one", true)
	wantGet(t, m, "b", "two", true)
	wantDelete(t, m, "c", false)
	wantCounts(t, m, 2, 8, 0)
	wantDelete(t, m, "a", true)
	wantCounts(t, m, 1, 8, 0)
	wantGet(t, m, "a", "", false)
	wantGet(t, m, "b", "two", true)
	wantDelete(t, m, "a", false)
	wantCounts(t, m, 1, 8, 0)
	m.Put("a", "three")
	wantCounts(t, m, 2, 8, 0)
	wantGet(t, m, "a", "three", true)
	wantTold(t, m.All(), []told[string]{{"a", "three"}, {"b", "two"}})
}

// P9.1: a text put twice has what it was given last, and is one text; what it has may be the zero value.
func TestPutTwice(t *testing.T) {
	m := New[int](0)
	for _, v := range []int{7, 7, 8, -1, 0, math.MaxInt, math.MinInt, 0} {
		m.Put("a", v)
		wantCounts(t, m, 1, 8, 0)
		wantGet(t, m, "a", v, true)
		wantTold(t, m.All(), []told[int]{{"a", v}})
	}
	wantDelete(t, m, "a", true)
	wantGet(t, m, "a", 0, false)
}

// P9.1, P9.2: however often texts are put again, they are no more texts, and the buckets do not grow.
func TestPutAgainAndAgain(t *testing.T) {
	m := filled(3, 16)
	for n := range 200 {
		m.Put(key(n%16), -n)
		wantCounts(t, m, 16, 8, 0)
		wantGet(t, m, key(n%16), -n, true)
	}
	m.Put("one more", 0)
	wantCounts(t, m, 17, 16, 8)
}

// P9.1: what has nothing is not found, however like it is to what has something.
func TestWhatHasNothing(t *testing.T) {
	m := New[int](2)
	m.Put("a", 1)
	m.Put("\x00", 2)
	for _, key := range []string{"", "A", "a ", " a", "aa", "a\x00", "\x00\x00", "\x00a", "\xe1", "b"} {
		wantGet(t, m, key, 0, false)
		wantDelete(t, m, key, false)
	}
	wantTold(t, m.All(), []told[int]{{"\x00", 2}, {"a", 1}})
}

// P9.1, P9.3: the text of no bytes is one as all others are, and stands first.
func TestNoBytes(t *testing.T) {
	m := New[int](5)
	m.Put("\x00", 1)
	wantGet(t, m, "", 0, false)
	m.Put("", 2)
	wantCounts(t, m, 2, 8, 0)
	wantGet(t, m, "", 2, true)
	m.Put("", 3)
	wantTold(t, m.All(), []told[int]{{"", 3}, {"\x00", 1}})
	wantDelete(t, m, "", true)
	wantDelete(t, m, "", false)
	wantGet(t, m, "", 0, false)
	m.Put("", 4)
	wantTold(t, m.All(), []told[int]{{"", 4}, {"\x00", 1}})
}

// P9.1: texts are the same byte by byte alone, however long they are.
func TestOddTexts(t *testing.T) {
	texts := []string{"", "a", "A", "a ", "a\x00", "\x00", "\x00\x00", "\xff\xfe", "\u00e9", "e\u0301", "\r\n", strings.Repeat("k", 250), strings.Repeat("k", 251), strings.Repeat("k", 100000)}
	for _, seed := range seeds() {
		m := New[int](seed)
		for n, key := range texts {
			m.Put(key, n)
		}
		wantCounts(t, m, len(texts), 8, 0)
		for n, key := range texts {
			wantGet(t, m, key, n, true)
		}
		for n, key := range texts {
			wantDelete(t, m, key, true)
			wantDelete(t, m, key, false)
			wantCounts(t, m, len(texts)-n-1, 8, 0)
		}
	}
}

// P9.2: each number of texts at which the buckets grow, and those beside it.
func TestGrowth(t *testing.T) {
	for _, seed := range seeds() {
		m := New[int](seed)
		buckets, left := 8, 0
		for n := 1; n <= 5000; n++ {
			m.Put(key(n), n)
			left = max(left-1, 0)
			switch n {
			case 17, 33, 65, 129, 257, 513, 1025, 2049, 4097:
				left, buckets = buckets, 2*buckets
			}
			wantCounts(t, m, n, buckets, left)
		}
	}
}

// P9.2: as written out, so that no loop is the only one to say so.
func TestGrowthWrittenOut(t *testing.T) {
	for _, s := range []struct{ many, buckets, left int }{
		{1, 8, 0}, {8, 8, 0}, {9, 8, 0}, {15, 8, 0}, {16, 8, 0}, {17, 16, 8}, {18, 16, 7}, {24, 16, 1}, {25, 16, 0}, {26, 16, 0}, {32, 16, 0},
		{33, 32, 16}, {34, 32, 15}, {48, 32, 1}, {49, 32, 0}, {64, 32, 0}, {65, 64, 32}, {96, 64, 1}, {97, 64, 0}, {128, 64, 0}, {129, 128, 64},
	} {
		wantCounts(t, filled(1, s.many), s.many, s.buckets, s.left)
	}
}

// calls are all that moves a bucket: those that find something, and those that find nothing.
func calls() map[string]func(m *Table[int], n int) {
	return map[string]func(m *Table[int], n int){
		"put anew":       func(m *Table[int], n int) { m.Put("anew"+key(n), n) },
		"put again":      func(m *Table[int], n int) { m.Put(key(n), -n) },
		"got":            func(m *Table[int], n int) { m.Get(key(n)) },
		"got, not there": func(m *Table[int], n int) { m.Get("none" + key(n)) },
		"deleted":        func(m *Table[int], n int) { m.Delete(key(n)) },
		"deleted, none":  func(m *Table[int], n int) { m.Delete("none" + key(n)) },
	}
}

// P9.2: Left is one less behind each Put, Get and Delete, down to 0 and no further.
func TestLeft(t *testing.T) {
	for name, call := range calls() {
		for _, c := range []struct{ many, buckets int }{{17, 16}, {33, 32}, {65, 64}} {
			m := filled(4, c.many)
			for n := range c.buckets/2 + 5 {
				if want := max(c.buckets/2-n, 0); m.Left() != want || m.Buckets() != c.buckets {
					t.Errorf("%s, of %d, %d times: Left %d, Buckets %d; want %d, %d", name, c.many, n, m.Left(), m.Buckets(), want, c.buckets)
				}
				call(m, n)
			}
		}
	}
}

// P9.2, P9.3: what tells something alone moves nothing.
func TestNothingElseMoves(t *testing.T) {
	m := filled(2, 17)
	for range 20 {
		wantCounts(t, m, 17, 16, 8)
		for range m.All() {
			wantCounts(t, m, 17, 16, 8)
		}
		m.All()(func(string, int) bool { return false })
	}
}

// P9.2: Gets and Deletes make no growth, and fewer texts no fewer buckets.
func TestPutAloneGrows(t *testing.T) {
	m := filled(6, 16)
	for n := range 50 {
		wantGet(t, m, key(n), ifSo(n < 16, n), n < 16)
		wantDelete(t, m, "none", false)
		wantCounts(t, m, 16, 8, 0)
	}
	m.Put("one more", 0)
	for n := range 16 {
		wantDelete(t, m, key(n), true)
		wantCounts(t, m, 16-n, 16, max(7-n, 0))
	}
	wantDelete(t, m, "one more", true)
	wantCounts(t, m, 0, 16, 0)
	for n := range 32 {
		m.Put(key(n), n)
		wantCounts(t, m, n+1, 16, 0)
	}
	m.Put(key(32), 32)
	wantCounts(t, m, 33, 32, 16)
}

// ifSo is a number, or 0.
func ifSo(is bool, n int) int {
	if is {
		return n
	}
	return 0
}

// P9.2: a text that is deleted and put again is counted once, so that growth waits for one more.
func TestGrowthCountsWhatIsThere(t *testing.T) {
	m := filled(0, 16)
	for n := range 100 {
		wantDelete(t, m, key(n), true)
		wantCounts(t, m, 15, 8, 0)
		m.Put(key(n+16), n)
		wantCounts(t, m, 16, 8, 0)
	}
	m.Put("one more", 0)
	wantCounts(t, m, 17, 16, 8)
}

// P9.2: no growth while some are left to be moved. No row of calls brings so many texts about before all is moved, so the table is laid by hand.
func TestNoGrowthWhileSomeAreLeft(t *testing.T) {
	m := New[int](0)
	m.elder, m.buckets = make([]bucket[int], 40), make([]bucket[int], 8)
	for n := range 39 {
		m.Put(key(n), n)
		wantCounts(t, m, n+1, 8, 39-n)
	}
	m.Put(key(39), 39)
	wantCounts(t, m, 40, 16, 8)
	for n := range 40 {
		wantGet(t, m, key(n), n, true)
	}
}

// P9.2: behind growth, new texts move the elder buckets and bring no second growth about.
func TestNoSecondGrowth(t *testing.T) {
	m := filled(9, 17)
	for n := 17; n < 32; n++ {
		m.Put(key(n), n)
		wantCounts(t, m, n+1, 16, max(24-n, 0))
	}
}

// P9.2, P9.4: while elder buckets are left, to each number of them, each text is got, put again, deleted, and put anew.
func TestWhileElderOnesAreLeft(t *testing.T) {
	for _, seed := range seeds() {
		for moved := range 10 {
			for at := range 18 {
				m, p := filled(seed, 17), newPlain()
				for n := range 17 {
					p.put(key(n), n)
				}
				for range moved {
					m.Get("none")
					p.get("none")
				}
				for _, what := range []int{get, put, get, remove, remove, get, put, put, get} {
					step(t, m, p, what, key(at), 100+what)
					wantPlain(t, m, p)
				}
			}
			if t.Failed() {
				t.Fatalf("seed %d, %d moved", seed, moved)
			}
		}
	}
}

// P9.4: each text is there behind each single move, with its own value, and once.
func TestNothingIsLost(t *testing.T) {
	for _, seed := range seeds() {
		m := New[int](seed)
		var want []told[int]
		for n := range 600 {
			text := key(1000 + n) // as long as all others, so that they rise as they come
			m.Put(text, n)
			want = append(want, told[int]{text, n})
			wantTold(t, m.All(), want)
			if n%3 == 0 {
				wantGet(t, m, key(1000+n/2), n/2, true)
				wantTold(t, m.All(), want)
			}
		}
	}
}

// P9.4: nothing comes back while buckets are moved.
func TestWhatIsDeletedStaysSo(t *testing.T) {
	for _, seed := range seeds() {
		m := filled(seed, 129)
		for n := 0; n < 129; n += 2 {
			wantDelete(t, m, key(n), true)
		}
		for range 2 {
			for n := range 129 {
				wantGet(t, m, key(n), ifSo(n%2 == 1, n), n%2 == 1)
			}
		}
		wantCounts(t, m, 64, 128, 0)
	}
}

// P9.2: a text stands by its hash under the seed, in one bucket, and a bucket has a few texts.
func TestPlaces(t *testing.T) {
	for _, seed := range seeds() {
		m := filled(seed, 1500)
		for range m.Left() {
			m.Get("none")
		}
		many := 0
		for at, b := range m.buckets {
			for _, e := range b {
				if want := hash.Below(hash.Of(seed, e.key), m.Buckets()); at != want {
					t.Errorf("seed %d: %q stands in %d; want %d", seed, e.key, at, want)
				}
			}
			many += len(b)
			if len(b) > 15 {
				t.Errorf("seed %d: %d texts in bucket %d", seed, len(b), at)
			}
		}
		if many != 1500 {
			t.Errorf("seed %d: %d texts in all", seed, many)
		}
	}
}

// P9.2: one bucket is moved at a time: those that are left have all that they had.
func TestOneIsMovedAtATime(t *testing.T) {
	m := filled(0, 65)
	before := slices.Clone(m.elder)
	for left := 31; left >= 0; left-- {
		m.Get("none")
		stay := 0
		for _, b := range m.elder {
			stay += len(b)
		}
		want := 0
		for _, b := range before[:left] {
			want += len(b)
		}
		if stay != want {
			t.Errorf("%d left: %d texts stay; want %d", left, stay, want)
		}
	}
}

// P9.1, R1: texts that all have one hash stand in one bucket, and are told apart there. (Under seed 0, noughts of any number have hash 0.)
func TestOneHash(t *testing.T) {
	const many = 70
	m := New[int](0)
	for n := range many {
		m.Put(strings.Repeat("\x00", n), n)
	}
	for range 2 {
		for n := range many {
			wantGet(t, m, strings.Repeat("\x00", n), n, true)
		}
		wantGet(t, m, strings.Repeat("\x00", many), 0, false)
	}
	for n := 0; n < many; n += 3 {
		wantDelete(t, m, strings.Repeat("\x00", n), true)
	}
	for n := range many {
		has := n%3 != 0
		wantGet(t, m, strings.Repeat("\x00", n), ifSo(has, n), has)
	}
}

// P9.3: where one begins with another one, at bytes above 127, and at capitals, whatever the order in which they are put.
func TestRisingOrder(t *testing.T) {
	want := []string{"", "\x00", "\x00\x00", "\x00a", "\x01", " ", "A", "B", "Z", "a", "a\x00", "a\x00b", "a ", "aB", "aa", "aaa", "ab", "a\x7f", "a\x80", "a\xff", "b", "\x7f", "\x80", "\x80a", "\xc3\xa9", "\xc3\xbc", "\xe4\xb8\x96", "\xf0\x9f\x8d\xb0", "\xfe", "\xff", "\xff\x00", "\xff\xff"}
	for _, seed := range seeds() {
		for _, order := range [][]string{want, backwards(want), shuffled(want, 1), shuffled(want, 2)} {
			m := New[int](seed)
			for _, key := range order {
				m.Put(key, len(key))
			}
			l := collect(m.All())
			if len(l) != len(want) {
				t.Fatalf("%d texts; want %d", len(l), len(want))
			}
			for n, key := range want {
				if l[n].key != key || l[n].value != len(key) {
					t.Errorf("text %d is %q with %d; want %q with %d", n, l[n].key, l[n].value, key, len(key))
				}
			}
		}
	}
}

func backwards(l []string) []string {
	l = slices.Clone(l)
	slices.Reverse(l)
	return l
}

// numbers are some that look as if by chance, the same each time.
func numbers(start uint64) func(below int) int {
	return func(below int) int {
		start = start*6364136223846793005 + 1442695040888963407
		return int(start >> 33 % uint64(below))
	}
}

func shuffled(l []string, start uint64) []string {
	l = slices.Clone(l)
	pick := numbers(start)
	for n := len(l) - 1; n > 0; n-- {
		other := pick(n + 1)
		l[n], l[other] = l[other], l[n]
	}
	return l
}

// P9.3: as long as one goes on, and no longer: whoever leaves is not told another text. Some are elder ones.
func TestAllIsLeft(t *testing.T) {
	for _, many := range []int{1, 2, 16, 17, 20, 33} {
		m := filled(1, many)
		want := collect(m.All())
		buckets, left := m.Buckets(), m.Left()
		for most := 1; most <= many; most++ {
			var l []told[int]
			m.All()(func(key string, v int) bool {
				l = append(l, told[int]{key, v})
				return len(l) < most
			})
			if !slices.Equal(l, want[:most]) {
				t.Errorf("left behind %d: %v; want %v", most, l, want[:most])
			}
			wantCounts(t, m, many, buckets, left)
		}
	}
}

// P9.3: one answer of All may be gone over again, also when it was left, and within itself.
func TestAllIsBegunAgain(t *testing.T) {
	m := filled(1, 20)
	all, want := m.All(), collect(m.All())
	wantTold(t, all, want)
	wantTold(t, all, want)
	for leave := range want {
		at := 0
		for range all {
			if at == leave {
				break
			}
			at++
		}
		wantTold(t, all, want)
	}
	for range all {
		wantTold(t, all, want)
	}
	none := New[int](0).All()
	wantTold(t, none, nil)
	wantTold(t, none, nil)
}

// P9.3, R3: what All has answered is the caller's own, and stays when the table does not.
func TestAllStays(t *testing.T) {
	m := filled(1, 17)
	all, want, none := m.All(), collect(m.All()), New[int](1).All()
	for n := range 17 {
		m.Put(key(n), -1)
	}
	for n := range 10 {
		m.Delete(key(n))
	}
	for n := range 100 {
		m.Put("anew"+key(n), n)
	}
	wantTold(t, all, want)
	wantTold(t, none, nil)
	if len(want) != 17 || m.Len() != 107 {
		t.Errorf("%d told, Len() = %d", len(want), m.Len())
	}
}

// P9.3, R1: it ends, and tells each text once, whatever is done to the table meanwhile.
func TestAllEnds(t *testing.T) {
	for name, call := range calls() {
		for _, many := range []int{1, 16, 17, 40} {
			m := filled(8, many)
			want := collect(m.All())
			var l []told[int]
			n := 0
			for key, v := range m.All() {
				l = append(l, told[int]{key, v})
				call(m, n)
				n++
			}
			if !slices.Equal(l, want) {
				t.Errorf("%s: told %v; want %v", name, l, want)
			}
		}
	}
}

// P9.4: another order, and another seed, and what was there meanwhile, make no difference to what is there.
func TestOrderAndSeed(t *testing.T) {
	var texts []string
	want := map[string]int{}
	for n := range 150 {
		texts = append(texts, key(n))
		want[key(n)] = n
	}
	first := collect(filled(0, 150).All())
	for at, seed := range seeds() {
		for _, order := range [][]string{texts, backwards(texts), shuffled(texts, uint64(at))} {
			m := New[int](seed)
			for _, text := range order {
				m.Put("x"+text, 0)
				m.Put(text, -1)
				m.Put(text, want[text])
				wantDelete(t, m, "x"+text, true)
			}
			wantTold(t, m.All(), first)
			if m.Len() != 150 {
				t.Errorf("Len() = %d", m.Len())
			}
			for _, text := range texts {
				wantGet(t, m, text, want[text], true)
			}
		}
	}
}

const (
	put = iota
	get
	remove
)

// step does the same to a table and to its plain one.
func step(t *testing.T, m *Table[int], p *plain, what int, key string, v int) {
	t.Helper()
	switch what {
	case put:
		m.Put(key, v)
		p.put(key, v)
	case get:
		want, wantIs := p.get(key)
		wantGet(t, m, key, want, wantIs)
	default:
		wantDelete(t, m, key, p.delete(key))
	}
}

// P9.1 to P9.4: every row of up to four calls on three texts, that of no bytes among them, about where the buckets grow.
func TestAllShortRows(t *testing.T) {
	texts := []string{"a", "", "k3"}
	for _, many := range []int{0, 14, 15, 16, 17, 31, 32} {
		rows := 1
		for long := 1; long <= 4; long++ {
			rows *= 9
			for code := range rows {
				m, p := filled(uint64(many), many), newPlain()
				for n := range many {
					p.put(key(n), n)
				}
				for left, n := code, 0; n < long; n++ {
					step(t, m, p, left%3, texts[left/3%3], 50+n)
					left /= 9
				}
				wantPlain(t, m, p)
				if t.Failed() {
					t.Fatalf("%d texts, %d calls, row %d", many, long, code)
				}
			}
		}
	}
}

// P9.1 to P9.4: long rows of calls, step by step, in which puts are many at first, and deletes later on, and puts again.
func TestManySteps(t *testing.T) {
	for at, seed := range seeds() {
		m, p, pick := New[int](seed), newPlain(), numbers(uint64(at))
		for n := range 3000 {
			what := pick(3)
			if pick(2) == 0 {
				what = n / 1000 % 2 * remove
			}
			step(t, m, p, what, strconv.Itoa(pick(400)), n)
			wantPlain(t, m, p)
		}
		if p.buckets < 64 {
			t.Errorf("%d buckets alone", p.buckets)
		}
	}
}

// P9.1, R1: many texts.
func TestManyTexts(t *testing.T) {
	const many = 200000
	m := filled(greatest, many)
	wantCounts(t, m, many, 131072, 0)
	for n := range many {
		wantGet(t, m, key(n), n, true)
	}
	last, told := "", 0
	for key, v := range m.All() {
		if key <= last || key != "k"+strconv.Itoa(v) {
			t.Fatalf("%q with %d behind %q", key, v, last)
		}
		last = key
		told++
	}
	if told != many {
		t.Errorf("%d are told", told)
	}
	for n := range many {
		wantDelete(t, m, key(n), true)
	}
	wantCounts(t, m, 0, 131072, 0)
	wantTold(t, m.All(), nil)
}

// pair is a struct as a value.
type pair struct {
	name string
	n    int
}

// wantValues puts values of one type, past where the buckets grow.
func wantValues[V comparable](t *testing.T, values ...V) {
	t.Helper()
	var none V
	m := New[V](3)
	for n := range 40 {
		m.Put(key(n), values[n%len(values)])
	}
	for n := range 40 {
		wantGet(t, m, key(n), values[n%len(values)], true)
		wantGet(t, m, "none", none, false)
	}
	told := 0
	for key, v := range m.All() {
		n, _ := strconv.Atoi(key[1:])
		if v != values[n%len(values)] {
			t.Errorf("%q has %v", key, v)
		}
		told++
	}
	wantCounts(t, m, told, 32, 0)
	for n := range 40 {
		wantDelete(t, m, key(n), true)
		wantGet(t, m, key(n), none, false)
	}
}

// P9.1
func TestTypesOfValues(t *testing.T) {
	wantValues(t, 1, 0, -1, math.MaxInt, math.MinInt)
	wantValues(t, "a", "", "\xff\x00")
	wantValues(t, true, false)
	wantValues(t, 1.5, 0, math.Inf(-1))
	wantValues(t, byte(0), 255)
	wantValues(t, struct{}{})
	wantValues(t, pair{"a", 1}, pair{}, pair{"b", 2})
	wantValues(t, [3]int{1, 2, 3}, [3]int{})
	wantValues(t, &pair{"a", 1}, nil, &pair{"a", 1})
	wantValues[any](t, 1, "a", nil, pair{}, 2.5)
	wantValues[error](t, nil, strconv.ErrRange)
	wantValues(t, New[int](0), nil)
}

// P9.1: values that are not held against each other: slices, maps and functions.
func TestValuesThatAreNotCompared(t *testing.T) {
	lists, maps, functions := New[[]int](0), New[map[string]int](0), New[func() int](0)
	for n := range 20 {
		lists.Put(key(n), []int{n, n + 1})
		maps.Put(key(n), map[string]int{"n": n})
		functions.Put(key(n), func() int { return n })
	}
	for n := range 20 {
		l, _ := lists.Get(key(n))
		m, _ := maps.Get(key(n))
		f, _ := functions.Get(key(n))
		if !slices.Equal(l, []int{n, n + 1}) || m["n"] != n || f == nil || f() != n {
			t.Errorf("%d: %v, %v", n, l, m)
		}
	}
	l, isL := lists.Get("none")
	m, isM := maps.Get("none")
	f, isF := functions.Get("none")
	if l != nil || m != nil || f != nil || isL || isM || isF {
		t.Errorf("of none: %v %t, %v %t, %t %t", l, isL, m, isM, f != nil, isF)
	}
}

// P9.1: a pointer is kept as it is, so that what it points to is shared, and what is put next is not.
func TestPointersAsValues(t *testing.T) {
	m := New[*pair](0)
	p := &pair{"a", 1}
	m.Put("a", p)
	p.n = 2
	got, is := m.Get("a")
	if !is || got != p || got.n != 2 {
		t.Errorf("Get: %v, %t", got, is)
	}
	m.Put("a", &pair{"b", 3})
	if *p != (pair{"a", 2}) {
		t.Errorf("what was put first is %v", *p)
	}
}

// R3: a struct is kept as a value: what becomes of it outside plays no part.
func TestStructsAsValues(t *testing.T) {
	m := New[pair](0)
	p := pair{"a", 1}
	m.Put("a", p)
	p.n = 2
	got, _ := m.Get("a")
	got.n = 3
	for key, v := range m.All() {
		v.n = 4
		wantGet(t, m, key, pair{"a", 1}, true)
	}
}

// P9.1: what is deleted, or moved, is let go: no memory holds it any more.
func TestIsLetGo(t *testing.T) {
	b := bucket[*pair]{}
	for n := range 4 {
		b.put(key(n), &pair{"a", n})
	}
	whole := b
	b.take(key(1))
	if last := whole[3]; last.key != "" || last.value != nil {
		t.Errorf("behind the bucket still stands %v", last)
	}
	m := filled(0, 17)
	elder := m.elder
	m.Get("none")
	if elder[7] != nil {
		t.Errorf("behind the elder ones still stand %v", elder[7])
	}
}

// P9.1, R5: what one table has plays no part in another one.
func TestTablesAreApart(t *testing.T) {
	m, other := filled(1, 17), New[int](1)
	wantCounts(t, other, 0, 8, 0)
	wantGet(t, other, key(1), 0, false)
	wantDelete(t, other, key(1), false)
	other.Put(key(1), 5)
	wantDelete(t, other, key(1), true)
	wantCounts(t, other, 0, 8, 0)
	wantCounts(t, m, 17, 16, 8)
	wantGet(t, m, key(1), 1, true)
}
