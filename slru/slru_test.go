package slru

import (
	"iter"
	"math"
	"slices"
	"strconv"
	"strings"
	"testing"

	"buttery/api"
)

// plain is what a list is held against: two rows, each gone through from end to end.
type plain struct {
	most             int
	trial, protected []string
}

func (p *plain) all() []string { return slices.Concat(p.trial, p.protected) }

func (p *plain) add(key string) api.Errno {
	if slices.Contains(p.all(), key) {
		return api.ErrTwice
	}
	p.trial = append(p.trial, key)
	return api.OK
}

func (p *plain) remove(key string) api.Errno {
	if !slices.Contains(p.all(), key) {
		return api.ErrNone
	}
	p.trial, p.protected = without(p.trial, key), without(p.protected, key)
	return api.OK
}

func (p *plain) hit(key string) api.Errno {
	if e := p.remove(key); e != api.OK {
		return e
	}
	p.protected = append(p.protected, key)
	if len(p.protected) > p.most {
		p.trial = append(p.trial, p.protected[0])
		p.protected = p.protected[1:]
	}
	return api.OK
}

// without is a list of its own.
func without(keys []string, key string) []string {
	var left []string
	for _, k := range keys {
		if k != key {
			left = append(left, k)
		}
	}
	return left
}

// oddMosts are numbers of keys that may be protected, with the ends of the ints.
func oddMosts() []int {
	return []int{math.MinInt, math.MinInt + 1, math.MinInt32, -3, -2, -1, 0, 1, 2, 3, 4, 5, 7, math.MaxInt32, math.MaxInt - 1, math.MaxInt}
}

func wantAdd(t *testing.T, l *List, key string, want api.Errno) {
	t.Helper()
	if e := l.Add(key); e != want {
		t.Errorf("Add(%q) = %d; want %d", key, e, want)
	}
}

func wantHit(t *testing.T, l *List, key string, want api.Errno) {
	t.Helper()
	if e := l.Hit(key); e != want {
		t.Errorf("Hit(%q) = %d; want %d", key, e, want)
	}
}

func wantRemove(t *testing.T, l *List, key string, want api.Errno) {
	t.Helper()
	if e := l.Remove(key); e != want {
		t.Errorf("Remove(%q) = %d; want %d", key, e, want)
	}
}

func wantVictim(t *testing.T, l *List, but, want string, wantIs bool) {
	t.Helper()
	if key, is := l.Victim(but); key != want || is != wantIs {
		t.Errorf("Victim(%q) = %q, %t; want %q, %t", but, key, is, want, wantIs)
	}
}

func wantTold(t *testing.T, all iter.Seq[string], want []string) {
	t.Helper()
	if told := slices.Collect(all); !slices.Equal(told, want) {
		t.Errorf("told: %q; want %q", told, want)
	}
}

// wantCounts asks for what is counted alone.
func wantCounts(t *testing.T, l *List, many, protected int) {
	t.Helper()
	if n := l.Len(); n != many {
		t.Errorf("Len() = %d; want %d", n, many)
	}
	if n := l.Protected(); n != protected {
		t.Errorf("Protected() = %d; want %d", n, protected)
	}
}

// wantKeys asks for all that a list tells, with each key as but, and some that are not there.
func wantKeys(t *testing.T, l *List, trial, protected []string) {
	t.Helper()
	all := slices.Concat(trial, protected)
	wantTold(t, l.All(), all)
	wantCounts(t, l, len(all), len(protected))
	for _, but := range append([]string{"", "not there"}, all...) {
		want := ""
		rest := without(all, but)
		if len(rest) > 0 {
			want = rest[0]
		}
		wantVictim(t, l, but, want, len(rest) > 0)
	}
}

// wantRows is wantKeys for keys of one letter.
func wantRows(t *testing.T, l *List, trial, protected string) {
	t.Helper()
	wantKeys(t, l, strings.Split(trial, ""), strings.Split(protected, ""))
}

// filled is a list with keys of one letter in its rows.
func filled(t *testing.T, most int, trial, protected string) *List {
	t.Helper()
	l := New(most)
	for _, key := range strings.Split(protected, "") {
		wantAdd(t, l, key, api.OK)
		wantHit(t, l, key, api.OK)
	}
	for _, key := range strings.Split(trial, "") {
		wantAdd(t, l, key, api.OK)
	}
	wantRows(t, l, trial, protected)
	return l
}

// P8.1 to P8.3: the chapter's example.
func TestTheExample(t *testing.T) {
	l := New(1)
	wantAdd(t, l, "a", api.OK)
	wantAdd(t, l, "b", api.OK)
	wantHit(t, l, "a", api.OK)
	wantRows(t, l, "b", "a")
	wantHit(t, l, "b", api.OK)
	wantRows(t, l, "a", "b")
}

// P8.1, P8.3
func TestNoKeys(t *testing.T) {
	for _, most := range oddMosts() {
		l := New(most)
		wantRows(t, l, "", "")
		for _, key := range []string{"", "a", "not there"} {
			wantHit(t, l, key, api.ErrNone)
			wantRemove(t, l, key, api.ErrNone)
			wantVictim(t, l, key, "", false)
			wantRows(t, l, "", "")
		}
	}
}

// P8.1: those on trial stand as they were added, not by their letters.
func TestAdd(t *testing.T) {
	l := New(2)
	for _, s := range []struct{ key, want string }{{"c", "c"}, {"a", "ca"}, {"d", "cad"}, {"b", "cadb"}} {
		wantAdd(t, l, s.key, api.OK)
		wantRows(t, l, s.want, "")
	}
}

// P8.1: whoever is there already stays where it is.
func TestAddTwice(t *testing.T) {
	l := filled(t, 3, "abc", "def")
	for _, key := range strings.Split("abcdef", "") {
		for range 2 {
			wantAdd(t, l, key, api.ErrTwice)
			wantRows(t, l, "abc", "def")
		}
	}
	wantAdd(t, l, "g", api.OK)
	wantRows(t, l, "abcg", "def")
}

// P8.1, P8.2
func TestWhatIsNotThere(t *testing.T) {
	for _, rows := range []struct{ trial, protected string }{{"abc", "def"}, {"abc", ""}, {"", "def"}} {
		l := filled(t, 3, rows.trial, rows.protected)
		for _, key := range []string{"", "x", "A", "ab", "a ", " a", "a\x00", "\xff"} {
			wantHit(t, l, key, api.ErrNone)
			wantRemove(t, l, key, api.ErrNone)
			wantRows(t, l, rows.trial, rows.protected)
		}
	}
}

// P8.1: of a number below 0, and of 0, none: who is hit comes last of those on trial.
func TestNoneMayBeProtected(t *testing.T) {
	for _, most := range []int{math.MinInt, math.MinInt + 1, math.MinInt32, -2, -1, 0} {
		l := filled(t, most, "abcd", "")
		for _, s := range []struct{ key, want string }{{"a", "bcda"}, {"c", "bdac"}, {"c", "bdac"}, {"d", "bacd"}, {"b", "acdb"}} {
			wantHit(t, l, s.key, api.OK)
			wantRows(t, l, s.want, "")
		}
		wantRemove(t, l, "d", api.OK)
		wantAdd(t, l, "e", api.OK)
		wantRows(t, l, "acbe", "")
		one := filled(t, most, "a", "")
		wantHit(t, one, "a", api.OK)
		wantRows(t, one, "a", "")
	}
}

// P8.1, P8.2
func TestOneMayBeProtected(t *testing.T) {
	l := filled(t, 1, "abc", "")
	for _, s := range []struct{ key, trial, protected string }{
		{"b", "ac", "b"}, {"b", "ac", "b"}, {"c", "ab", "c"}, {"a", "bc", "a"}, {"b", "ca", "b"}, {"c", "ab", "c"},
	} {
		wantHit(t, l, s.key, api.OK)
		wantRows(t, l, s.trial, s.protected)
	}
	wantRemove(t, l, "c", api.OK)
	wantRows(t, l, "ab", "")
	wantHit(t, l, "a", api.OK)
	wantRows(t, l, "b", "a")
}

// P8.1, P8.2: as many as there are may be.
func TestAllMayBeProtected(t *testing.T) {
	for _, most := range []int{5, 6, math.MaxInt32, math.MaxInt - 1, math.MaxInt} {
		l := filled(t, most, "abcde", "")
		for _, s := range []struct{ key, trial, protected string }{
			{"c", "abde", "c"}, {"a", "bde", "ca"}, {"e", "bd", "cae"}, {"d", "b", "caed"}, {"b", "", "caedb"}, {"c", "", "aedbc"},
		} {
			wantHit(t, l, s.key, api.OK)
			wantRows(t, l, s.trial, s.protected)
		}
	}
}

// P8.2: the first, a middle and the last one on trial, while there is room among the protected.
func TestHitOnTrial(t *testing.T) {
	for _, s := range []struct{ key, trial, protected string }{
		{"a", "bcd", "xya"}, {"b", "acd", "xyb"}, {"c", "abd", "xyc"}, {"d", "abc", "xyd"},
	} {
		l := filled(t, 3, "abcd", "xy")
		wantHit(t, l, s.key, api.OK)
		wantRows(t, l, s.trial, s.protected)
	}
	only := filled(t, 3, "a", "xy")
	wantHit(t, only, "a", api.OK)
	wantRows(t, only, "", "xya")
}

// P8.2: the first, a middle and the last one of the protected, whether they are as many as may be or not: none leaves them.
func TestHitAgain(t *testing.T) {
	for _, most := range []int{4, 5, math.MaxInt} {
		for _, s := range []struct{ key, protected string }{{"w", "xyzw"}, {"x", "wyzx"}, {"y", "wxzy"}, {"z", "wxyz"}} {
			l := filled(t, most, "ab", "wxyz")
			for range 2 {
				wantHit(t, l, s.key, api.OK)
				wantRows(t, l, "ab", s.protected)
			}
		}
	}
	only := filled(t, 1, "", "x")
	wantHit(t, only, "x", api.OK)
	wantRows(t, only, "", "x")
}

// P8.2: the first of the protected comes last of those on trial, behind all who stand there.
func TestHitOfOneTooMany(t *testing.T) {
	for _, s := range []struct{ key, trial, protected string }{{"a", "bcx", "yza"}, {"b", "acx", "yzb"}, {"c", "abx", "yzc"}} {
		l := filled(t, 3, "abc", "xyz")
		wantHit(t, l, s.key, api.OK)
		wantRows(t, l, s.trial, s.protected)
	}
	only := filled(t, 2, "a", "xy")
	wantHit(t, only, "a", api.OK)
	wantRows(t, only, "x", "ya")
}

// P8.2: who was hit again is not the first any more, and so another one must go.
func TestHitAgainSaves(t *testing.T) {
	l := filled(t, 3, "ab", "xyz")
	wantHit(t, l, "x", api.OK)
	wantHit(t, l, "a", api.OK)
	wantRows(t, l, "by", "zxa")
	wantHit(t, l, "z", api.OK)
	wantHit(t, l, "y", api.OK)
	wantRows(t, l, "bx", "azy")
}

// P8.2: one that was protected may be so again.
func TestBackAndForth(t *testing.T) {
	l := filled(t, 1, "", "x")
	wantAdd(t, l, "y", api.OK)
	for range 3 {
		wantHit(t, l, "y", api.OK)
		wantRows(t, l, "x", "y")
		wantHit(t, l, "x", api.OK)
		wantRows(t, l, "y", "x")
	}
}

// P8.1: the first, a middle and the last one of each row; the row holds together then, at both ends.
func TestRemove(t *testing.T) {
	for _, key := range strings.Split("abcdwxyz", "") {
		l, p := filled(t, 4, "abcd", "wxyz"), &plain{4, strings.Split("abcd", ""), strings.Split("wxyz", "")}
		wantRemove(t, l, key, p.remove(key))
		wantKeys(t, l, p.trial, p.protected)
		wantRemove(t, l, key, api.ErrNone)
		wantHit(t, l, key, api.ErrNone)
		wantKeys(t, l, p.trial, p.protected)
		for _, other := range strings.Split("nabcdwxyzn", "") {
			wantAdd(t, l, other, p.add(other))
			wantHit(t, l, other, p.hit(other))
			wantKeys(t, l, p.trial, p.protected)
		}
	}
}

// P8.1: as written out, so that the plain list is not the only one to say so.
func TestRemoveWrittenOut(t *testing.T) {
	for _, s := range []struct{ key, trial, protected string }{
		{"a", "bc", "xyz"}, {"b", "ac", "xyz"}, {"c", "ab", "xyz"}, {"x", "abc", "yz"}, {"y", "abc", "xz"}, {"z", "abc", "xy"},
	} {
		l := filled(t, 3, "abc", "xyz")
		wantRemove(t, l, s.key, api.OK)
		wantRows(t, l, s.trial, s.protected)
		wantAdd(t, l, "n", api.OK)
		wantRows(t, l, s.trial+"n", s.protected)
	}
}

// P8.1: the only one of a row, and of all.
func TestRemoveTheOnlyOne(t *testing.T) {
	for _, s := range []struct{ trial, protected string }{{"a", ""}, {"", "a"}, {"a", "xy"}, {"bc", "a"}} {
		l := filled(t, 2, s.trial, s.protected)
		wantRemove(t, l, "a", api.OK)
		trial, protected := strings.ReplaceAll(s.trial, "a", ""), strings.ReplaceAll(s.protected, "a", "")
		wantRows(t, l, trial, protected)
		wantAdd(t, l, "n", api.OK)
		wantRows(t, l, trial+"n", protected)
		wantRemove(t, l, "n", api.OK)
		wantRows(t, l, trial, protected)
	}
}

// P8.1: it is as new, whatever it was ahead of that.
func TestAddedAgain(t *testing.T) {
	for _, key := range strings.Split("abcxyz", "") {
		l := filled(t, 3, "abc", "xyz")
		wantRemove(t, l, key, api.OK)
		wantAdd(t, l, key, api.OK)
		wantRows(t, l, strings.ReplaceAll("abc", key, "")+key, strings.ReplaceAll("xyz", key, ""))
		wantAdd(t, l, key, api.ErrTwice)
	}
}

// P8.2: who is removed makes room among the protected.
func TestRemoveMakesRoom(t *testing.T) {
	l := filled(t, 2, "ab", "xy")
	wantRemove(t, l, "y", api.OK)
	wantHit(t, l, "a", api.OK)
	wantRows(t, l, "b", "xa")
	wantHit(t, l, "b", api.OK)
	wantRows(t, l, "x", "ab")
}

// P8.1: all are removed, in several orders, and the list is as new.
func TestRemoveAll(t *testing.T) {
	for _, order := range []string{"abcxyz", "zyxcba", "xaybzc", "bayxzc"} {
		l, p := filled(t, 3, "abc", "xyz"), &plain{3, strings.Split("abc", ""), strings.Split("xyz", "")}
		for _, key := range strings.Split(order, "") {
			wantRemove(t, l, key, p.remove(key))
			wantKeys(t, l, p.trial, p.protected)
		}
		wantRows(t, l, "", "")
		wantAdd(t, l, "x", api.OK)
		wantHit(t, l, "x", api.OK)
		wantAdd(t, l, "y", api.OK)
		wantRows(t, l, "y", "x")
	}
}

// P8.1 to P8.3: the empty key is one as all others are.
func TestEmptyKey(t *testing.T) {
	l := New(1)
	wantAdd(t, l, "", api.OK)
	wantAdd(t, l, "", api.ErrTwice)
	wantVictim(t, l, "", "", false)
	wantVictim(t, l, "a", "", true)
	wantAdd(t, l, "a", api.OK)
	wantKeys(t, l, []string{"", "a"}, nil)
	wantVictim(t, l, "", "a", true)
	wantHit(t, l, "", api.OK)
	wantKeys(t, l, []string{"a"}, []string{""})
	wantVictim(t, l, "a", "", true)
	wantAdd(t, l, "", api.ErrTwice)
	wantHit(t, l, "a", api.OK)
	wantKeys(t, l, []string{""}, []string{"a"})
	wantRemove(t, l, "", api.OK)
	wantRemove(t, l, "", api.ErrNone)
	wantHit(t, l, "", api.ErrNone)
	wantKeys(t, l, nil, []string{"a"})
}

// P8.1: keys are the same byte by byte alone, however long they are.
func TestOddKeys(t *testing.T) {
	keys := []string{"a", "A", "a ", "a\x00", "\x00", "\xff\xfe", "\u00e9", "e\u0301", "\r\n", strings.Repeat("k", 251), strings.Repeat("k", 100000)}
	l := New(len(keys))
	for _, key := range keys {
		wantAdd(t, l, key, api.OK)
	}
	wantKeys(t, l, keys, nil)
	for _, key := range keys {
		wantHit(t, l, key, api.OK)
	}
	wantKeys(t, l, nil, keys)
	for _, key := range keys {
		wantRemove(t, l, key, api.OK)
	}
	wantKeys(t, l, nil, nil)
}

// P8.3: as long as one goes on, and no longer: whoever leaves is not told another key.
func TestAllIsLeft(t *testing.T) {
	for _, rows := range []struct{ trial, protected string }{{"abc", "xyz"}, {"abc", ""}, {"", "xyz"}, {"a", "x"}} {
		l := filled(t, 3, rows.trial, rows.protected)
		want := strings.Split(rows.trial+rows.protected, "")
		for most := 1; most <= len(want); most++ {
			var told []string
			l.All()(func(key string) bool {
				told = append(told, key)
				return len(told) < most
			})
			if !slices.Equal(told, want[:most]) {
				t.Errorf("left behind %d: %q; want %q", most, told, want[:most])
			}
			wantRows(t, l, rows.trial, rows.protected)
		}
	}
}

// P8.3: one answer of All may be gone over again, also when it was left, and within itself.
func TestAllIsBegunAgain(t *testing.T) {
	l := filled(t, 3, "abc", "xyz")
	want := strings.Split("abcxyz", "")
	all := l.All()
	wantTold(t, all, want)
	wantTold(t, all, want)
	for leave := range want {
		at := 0
		for key := range all {
			if key != want[at] {
				t.Errorf("key %d is %q; want %q", at, key, want[at])
			}
			if at == leave {
				break
			}
			at++
		}
		wantTold(t, all, want)
	}
	for range all {
		wantTold(t, all, want)
	}
	none := New(1).All()
	wantTold(t, none, nil)
	wantTold(t, none, nil)
}

// P8.3, R3: what All has answered is the caller's own, and stays when the list does not.
func TestAllStays(t *testing.T) {
	l := filled(t, 2, "abc", "xy")
	all, none := l.All(), New(2).All()
	wantAdd(t, l, "n", api.OK)
	wantHit(t, l, "b", api.OK)
	wantRemove(t, l, "a", api.OK)
	wantRemove(t, l, "y", api.OK)
	wantRows(t, l, "cnx", "b")
	wantTold(t, all, strings.Split("abcxy", ""))
	wantTold(t, none, nil)
}

// P8.3, R1: it ends, whatever is done to the list meanwhile.
func TestAllEnds(t *testing.T) {
	for _, most := range []int{0, 1, 2, 9} {
		for name, do := range map[string]func(l *List, key string){
			"hit":          func(l *List, key string) { l.Hit(key) },
			"remove":       func(l *List, key string) { l.Remove(key) },
			"added again":  func(l *List, key string) { l.Remove(key); l.Add(key) },
			"another one":  func(l *List, key string) { l.Add(key + key) },
			"all but this": func(l *List, key string) { l.Remove("a"); l.Remove("b"); l.Remove("c"); l.Add(key) },
		} {
			l := filled(t, most, "abcd", "")
			var told []string
			for key := range l.All() {
				told = append(told, key)
				do(l, key)
			}
			if !slices.Equal(told, strings.Split("abcd", "")) {
				t.Errorf("%s: told %q", name, told)
			}
		}
	}
}

// P8.3
func TestVictim(t *testing.T) {
	for _, c := range []struct {
		trial, protected, but, want string
		is                          bool
	}{
		{"abc", "xyz", "q", "a", true}, {"abc", "xyz", "", "a", true}, {"abc", "xyz", "a", "b", true}, {"abc", "xyz", "b", "a", true}, {"abc", "xyz", "x", "a", true},
		{"a", "xyz", "a", "x", true}, {"a", "xyz", "x", "a", true}, {"a", "x", "a", "x", true}, {"a", "x", "x", "a", true}, {"", "xyz", "x", "y", true}, {"", "xyz", "z", "x", true}, {"", "xyz", "q", "x", true},
		{"a", "", "a", "", false}, {"a", "", "b", "a", true}, {"", "x", "x", "", false}, {"", "x", "y", "x", true}, {"", "", "", "", false}, {"", "", "a", "", false},
	} {
		l := filled(t, 3, c.trial, c.protected)
		for range 2 {
			wantVictim(t, l, c.but, c.want, c.is)
			wantRows(t, l, c.trial, c.protected)
		}
	}
}

// P8.3: what is counted, behind each call of a written-out row of them.
func TestCounts(t *testing.T) {
	l := New(2)
	for at, s := range []struct {
		do              func(string) api.Errno
		key             string
		e               api.Errno
		many, protected int
	}{
		{l.Hit, "a", api.ErrNone, 0, 0}, {l.Remove, "a", api.ErrNone, 0, 0}, {l.Add, "a", api.OK, 1, 0}, {l.Add, "a", api.ErrTwice, 1, 0},
		{l.Hit, "a", api.OK, 1, 1}, {l.Hit, "a", api.OK, 1, 1}, {l.Add, "a", api.ErrTwice, 1, 1}, {l.Add, "b", api.OK, 2, 1},
		{l.Add, "c", api.OK, 3, 1}, {l.Hit, "b", api.OK, 3, 2}, {l.Hit, "c", api.OK, 3, 2}, {l.Hit, "a", api.OK, 3, 2},
		{l.Remove, "b", api.OK, 2, 2}, {l.Remove, "b", api.ErrNone, 2, 2}, {l.Hit, "b", api.ErrNone, 2, 2}, {l.Remove, "a", api.OK, 1, 1},
		{l.Add, "a", api.OK, 2, 1}, {l.Remove, "c", api.OK, 1, 0}, {l.Remove, "a", api.OK, 0, 0}, {l.Add, "c", api.OK, 1, 0},
	} {
		if e := s.do(s.key); e != s.e {
			t.Errorf("call %d, of %q: %d; want %d", at, s.key, e, s.e)
		}
		wantCounts(t, l, s.many, s.protected)
	}
}

// step does the same to a list and to its plain one.
func step(t *testing.T, l *List, p *plain, what int, key string) {
	t.Helper()
	switch what {
	case 0:
		wantAdd(t, l, key, p.add(key))
	case 1:
		wantHit(t, l, key, p.hit(key))
	default:
		wantRemove(t, l, key, p.remove(key))
	}
}

// P8.1 to P8.3: every row of up to five calls on three keys, the empty one among them.
func TestAllShortRows(t *testing.T) {
	const calls = 9
	keys := []string{"a", "", "b"}
	for most := range 4 {
		rows := 1
		for long := 1; long <= 5; long++ {
			rows *= calls
			for code := range rows {
				l, p := New(most), &plain{most: most}
				for left := range long {
					call := code / power(calls, left) % calls
					step(t, l, p, call%3, keys[call/3])
				}
				wantKeys(t, l, p.trial, p.protected)
				if t.Failed() {
					t.Fatalf("most %d, %d calls, row %d: %q, %q", most, long, code, p.trial, p.protected)
				}
			}
		}
	}
}

func power(n, times int) int {
	product := 1
	for range times {
		product *= n
	}
	return product
}

// numbers are some that look as if by chance, the same each time.
func numbers(start uint64) func(below int) int {
	return func(below int) int {
		start = start*6364136223846793005 + 1442695040888963407
		return int(start >> 33 % uint64(below))
	}
}

// wantSound asks for what follows: each key once, and not too many protected.
func wantSound(t *testing.T, l *List, most int) {
	t.Helper()
	seen := map[string]bool{}
	for key := range l.All() {
		if seen[key] {
			t.Errorf("%q is there twice", key)
		}
		seen[key] = true
	}
	if len(seen) != l.Len() {
		t.Errorf("%d keys are told; Len() = %d", len(seen), l.Len())
	}
	if n := l.Protected(); n < 0 || n > max(most, 0) || n > l.Len() {
		t.Errorf("%d of %d are protected; at most %d may be", n, l.Len(), most)
	}
}

// P8.1 to P8.4: long rows of calls, step by step.
func TestManySteps(t *testing.T) {
	for _, most := range oddMosts() {
		for start := range uint64(4) {
			l, p, pick := New(most), &plain{most: most}, numbers(start)
			for range 1000 {
				step(t, l, p, min(pick(5)/2, 2), strconv.Itoa(pick(12)))
				wantKeys(t, l, p.trial, p.protected)
				wantSound(t, l, most)
			}
		}
	}
}

// P8.4: while a key is protected, and some that was never hit is there, elder or newer, the key is not the Victim.
func TestWhoWasHitIsNotTheVictim(t *testing.T) {
	for _, most := range []int{1, 2, 3, 5} {
		l, pick := New(most), numbers(uint64(most))
		hit := map[string]bool{}
		for range 3000 {
			key := strconv.Itoa(pick(10))
			switch pick(3) {
			case 0:
				l.Add(key)
			case 1:
				hit[key] = l.Hit(key) == api.OK
			default:
				l.Remove(key)
				delete(hit, key)
			}
			wantVictimNotProtected(t, l, hit)
		}
	}
}

// wantVictimNotProtected asks so, if some key is there that was never hit.
func wantVictimNotProtected(t *testing.T, l *List, hit map[string]bool) {
	t.Helper()
	keys := slices.Collect(l.All())
	if !slices.ContainsFunc(keys, func(key string) bool { return !hit[key] }) {
		return
	}
	protected := keys[len(keys)-l.Protected():]
	if victim, is := l.Victim("not there"); !is || slices.Contains(protected, victim) {
		t.Errorf("the Victim is %q, %t, of %q; %d are protected", victim, is, keys, len(protected))
	}
}

// P8.4: a key that is hit again and again outlives all that come and go, as long as others are not hit.
func TestWhoIsHitOutlivesOthers(t *testing.T) {
	l := New(1)
	wantAdd(t, l, "kept", api.OK)
	wantHit(t, l, "kept", api.OK)
	for n := range 100 {
		wantAdd(t, l, strconv.Itoa(n), api.OK)
		wantVictim(t, l, "", strconv.Itoa(n), true)
		if n%3 == 0 {
			wantHit(t, l, "kept", api.OK)
		}
		wantVictim(t, l, strconv.Itoa(n), "kept", true)
		wantRemove(t, l, strconv.Itoa(n), api.OK)
	}
	wantKeys(t, l, nil, []string{"kept"})
}

// P8.4: keys that were never hit, elder and newer than the last Hit of another one, go ahead of it.
func TestElderAndNewerGoFirst(t *testing.T) {
	l := New(1)
	for _, key := range strings.Split("akb", "") {
		wantAdd(t, l, key, api.OK)
	}
	wantHit(t, l, "k", api.OK)
	wantAdd(t, l, "c", api.OK)
	for _, want := range strings.Split("abck", "") {
		wantVictim(t, l, "not there", want, true)
		wantRemove(t, l, want, api.OK)
	}
}

// P8.2, P8.4: one that had to leave the protected stands behind those who are on trial then, and ahead of those who are added later.
func TestWhoLeftTheProtected(t *testing.T) {
	l := filled(t, 1, "ay", "k")
	wantHit(t, l, "y", api.OK)
	wantAdd(t, l, "n", api.OK)
	wantRows(t, l, "akn", "y")
	wantVictim(t, l, "not there", "a", true)
	wantVictim(t, l, "a", "k", true)
}

// P8.1 to P8.3, R1: many keys, hit from the last one on: key 0 is the first till it is hit too, and then the one that left the protected first.
func TestManyKeys(t *testing.T) {
	const many, most = 100000, 30000
	l := New(most)
	for n := range many {
		wantAdd(t, l, strconv.Itoa(n), api.OK)
	}
	for n := many - 1; n > 0; n-- {
		wantHit(t, l, strconv.Itoa(n), api.OK)
		wantVictim(t, l, "not there", "0", true)
	}
	wantHit(t, l, "0", api.OK)
	wantVictim(t, l, "not there", strconv.Itoa(many-1), true)
	wantCounts(t, l, many, most)
	for n := range many {
		wantRemove(t, l, strconv.Itoa(n), api.OK)
	}
	wantKeys(t, l, nil, nil)
}

// P8.1, R5: what one list has plays no part in another one.
func TestListsAreApart(t *testing.T) {
	l, other := filled(t, 2, "ab", "xy"), New(2)
	wantRows(t, other, "", "")
	wantRemove(t, other, "a", api.ErrNone)
	wantAdd(t, other, "x", api.OK)
	wantHit(t, other, "x", api.OK)
	wantRemove(t, l, "x", api.OK)
	wantRows(t, l, "ab", "y")
	wantRows(t, other, "", "x")
}
