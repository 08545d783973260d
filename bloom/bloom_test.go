package bloom

import (
	"math"
	"strconv"
	"strings"
	"testing"

	"buttery/hash"
)

const greatest = math.MaxUint64

// seeds are ordinary ones, and those from which the second or the third seed goes round.
func seeds() []uint64 {
	return []uint64{0, 1, 2, 7, 12345, 1<<32 - 1, 1 << 63, greatest - 2, greatest - 1, greatest}
}

// oddTexts are no text, bytes of every kind, and long ones.
func oddTexts() []string {
	return []string{
		"", " ", "a", "A", "key", "\x00", "\x00\x00", "\x7f", "\x80", "\xff", "\xff\xff\xff", "\r\n", "gr\u00fc\u00dfe, \u4e16\u754c",
		strings.Repeat("x", 250), strings.Repeat("x", 251), strings.Repeat("\xe4\x00", 50000),
	}
}

// key is the n-th of many texts.
func key(n int) string { return "k" + strconv.Itoa(n) }

// plain is what a filter is held against: the places that are set, one by one.
type plain struct {
	seed uint64
	set  map[int]bool
}

func newPlain(seed uint64) *plain { return &plain{seed, map[int]bool{}} }

func (p *plain) places(s string) [3]int {
	var l [3]int
	for i := range l {
		l[i] = int(hash.Of(p.seed+uint64(i), s) % 512)
	}
	return l
}

func (p *plain) has(s string) bool {
	l := p.places(s)
	return p.set[l[0]] && p.set[l[1]] && p.set[l[2]]
}

func (p *plain) add(s string) bool {
	had := p.has(s)
	for _, place := range p.places(s) {
		p.set[place] = true
	}
	return had
}

func wantAdd(t *testing.T, f *Filter, s string, want bool) {
	t.Helper()
	if had := f.Add(s); had != want {
		t.Errorf("Add(%.20q) = %t; want %t", s, had, want)
	}
}

func wantHas(t *testing.T, f *Filter, s string, want bool) {
	t.Helper()
	if has := f.Has(s); has != want {
		t.Errorf("Has(%.20q) = %t; want %t", s, has, want)
	}
}

func wantOnes(t *testing.T, f *Filter, want int) {
	t.Helper()
	if n := f.Ones(); n != want {
		t.Errorf("Ones() = %d; want %d", n, want)
	}
}

// wantSame asks that a filter has what the plain one has, of so many texts that no bit may stand elsewhere.
func wantSame(t *testing.T, f *Filter, p *plain) {
	t.Helper()
	wantOnes(t, f, len(p.set))
	for n := range 3000 {
		wantHas(t, f, key(n), p.has(key(n)))
	}
	for _, s := range oddTexts() {
		wantHas(t, f, s, p.has(s))
	}
}

// P4.2: the chapter's example.
func TestTheExample(t *testing.T) {
	f := New(1)
	wantAdd(t, f, "a", false)
	wantAdd(t, f, "a", true)
	wantOnes(t, f, 3)
}

// P4.1
func TestNewHasNothing(t *testing.T) {
	for _, seed := range seeds() {
		wantSame(t, New(seed), newPlain(seed))
	}
}

// P4.1: places as worked out outside of the program.
func TestPlacesAsWrittenOut(t *testing.T) {
	for _, c := range []struct {
		seed uint64
		s    string
		want [3]int
	}{
		{0, "", [3]int{0, 125, 168}}, {1, "", [3]int{125, 168, 218}},
		{greatest - 1, "", [3]int{36, 484, 0}}, {greatest, "", [3]int{484, 0, 125}},
		{0, "\x00", [3]int{0, 157, 506}}, {1, "a", [3]int{48, 46, 4}}, {1, "b", [3]int{452, 436, 131}},
		{1, "key", [3]int{33, 1, 470}}, {1 << 63, "key", [3]int{511, 81, 11}},
		{greatest - 2, "key", [3]int{180, 459, 47}}, {greatest - 1, "key", [3]int{459, 47, 404}}, {greatest, "key", [3]int{47, 404, 33}},
		{7, "\x80\xff\x00", [3]int{276, 204, 24}}, {12345, "gr\u00fc\u00dfe, \u4e16\u754c", [3]int{356, 131, 194}},
		{1, strings.Repeat("x", 250), [3]int{135, 43, 364}}, {1, "k389", [3]int{257, 361, 257}},
	} {
		var l []int
		for place := range New(c.seed).places(c.s) {
			l = append(l, place)
		}
		if len(l) != 3 || [3]int(l) != c.want {
			t.Errorf("seed %x, %.20q: places %d; want %d", c.seed, c.s, l, c.want)
		}
	}
}

// P4.1: whoever leaves the places behind one is handed no other.
func TestPlacesMayBeLeft(t *testing.T) {
	for last := range 3 {
		calls := 0
		New(1).places("a")(func(int) bool {
			calls++
			return calls <= last
		})
		if calls != last+1 {
			t.Errorf("%d calls; want %d", calls, last+1)
		}
	}
}

// P4.1, P4.2: each text alone, under every seed.
func TestOneTextSetsItsPlaces(t *testing.T) {
	for _, seed := range seeds() {
		for _, s := range append(oddTexts(), key(38), key(273), key(2591)) {
			f, p := New(seed), newPlain(seed)
			wantAdd(t, f, s, p.add(s))
			wantSame(t, f, p)
		}
	}
}

// P4.1, P4.2: a text that has places twice is not there for having set the first of them.
func TestPlacesThatAreOne(t *testing.T) {
	for s, ones := range map[string]int{
		"k389": 2, "k810": 2, // the first and the third
		"k1002": 2, "k1648": 2, // the first and the second
		"k1267": 2, "k1350": 2, // the second and the third
		"k774134": 1, "k779089": 1, "k852210": 1, // all of them
	} {
		f, p := New(1), newPlain(1)
		wantAdd(t, f, s, false)
		wantOnes(t, f, ones)
		wantHas(t, f, s, true)
		wantAdd(t, f, s, true)
		wantOnes(t, f, ones)
		p.add(s)
		wantSame(t, f, p)
	}
}

// P4.2, P4.3: k535 and k515 set the places of k20; either of them alone leaves one of them.
func TestOthersMaySetPlaces(t *testing.T) {
	f := New(1)
	wantAdd(t, f, "k535", false)
	wantHas(t, f, "k20", false)
	wantAdd(t, f, "k515", false)
	wantHas(t, f, "k20", true)
	wantOnes(t, f, 6)
	wantAdd(t, f, "k20", true)
	wantOnes(t, f, 6)

	f = New(1)
	wantAdd(t, f, "k515", false)
	wantHas(t, f, "k20", false)
	wantAdd(t, f, "k20", false)
	wantOnes(t, f, 5)
}

// P4.2
func TestHasSetsNothing(t *testing.T) {
	f := New(1)
	wantHas(t, f, "a", false)
	wantHas(t, f, "a", false)
	wantOnes(t, f, 0)
	wantAdd(t, f, "a", false)
	wantHas(t, f, "b", false)
	wantHas(t, f, "b", false)
	wantOnes(t, f, 3)
	wantAdd(t, f, "b", false)
}

// P4.2, P4.3: step by step, till all bits are set.
func TestManyTexts(t *testing.T) {
	for _, seed := range seeds() {
		f, p := New(seed), newPlain(seed)
		for n := range 3000 {
			wantAdd(t, f, key(n), p.add(key(n)))
			wantHas(t, f, key(n), true)
			wantHas(t, f, key(n+1), p.has(key(n+1)))
			wantOnes(t, f, len(p.set))
			if n == 10 || n == 100 || n == 300 {
				wantSame(t, f, p)
			}
		}
		wantOnes(t, f, 512)
		wantHas(t, f, "never added", true)
	}
}

// P4.3: whatever comes later, what was added is there.
func TestAddedTextsStay(t *testing.T) {
	for _, seed := range seeds() {
		f := New(seed)
		for n, s := range oddTexts() {
			f.Add(s)
			for _, elder := range oddTexts()[:n+1] {
				wantHas(t, f, elder, true)
			}
		}
	}
}

// P4.2
func TestAddingTwiceChangesNothing(t *testing.T) {
	for _, seed := range seeds() {
		f, p := New(seed), newPlain(seed)
		for range 3 {
			for n := range 40 {
				wantAdd(t, f, key(n), p.add(key(n)))
				wantAdd(t, f, key(n), true)
			}
			wantSame(t, f, p)
		}
	}
}

// P4.2
func TestTheOrderOfAddingPlaysNoPart(t *testing.T) {
	for _, seed := range seeds() {
		f, back, p := New(seed), New(seed), newPlain(seed)
		for n := range 60 {
			f.Add(key(n))
			back.Add(key(59 - n))
			p.add(key(n))
		}
		wantSame(t, f, p)
		wantSame(t, back, p)
		if *f != *back {
			t.Errorf("seed %x: another order, other bits", seed)
		}
	}
}

// P4.2, P4.3: the seed stays, all else is as new.
func TestClearAndAddAgain(t *testing.T) {
	for _, seed := range seeds() {
		f := New(seed)
		f.Clear()
		wantSame(t, f, newPlain(seed))
		for many := 1; many < 4000; many *= 4 {
			for n := range many {
				f.Add(key(n))
			}
			f.Clear()
			wantSame(t, f, newPlain(seed))
		}
		p := newPlain(seed)
		for n := range 30 {
			wantAdd(t, f, key(n), p.add(key(n)))
		}
		wantSame(t, f, p)
	}
}

// filled are a filter and its plain one, with some texts added to both.
func filled(seed uint64) (*Filter, *plain) {
	f, p := New(seed), newPlain(seed)
	for n := range 20 {
		f.Add(key(n))
		p.add(key(n))
	}
	return f, p
}

// P4.2, R3: a copy has the seed and the bits, and either may be added to without the other.
func TestCopyAndAdd(t *testing.T) {
	for _, seed := range seeds() {
		f, p := filled(seed)
		g, q := f.Copy(), newPlain(seed)
		for place := range p.set {
			q.set[place] = true
		}
		wantSame(t, g, p)
		for n := 100; n < 130; n++ {
			wantAdd(t, g, key(n), q.add(key(n)))
		}
		wantSame(t, f, p)
		wantSame(t, g, q)
		for n := 200; n < 240; n++ {
			wantAdd(t, f, key(n), p.add(key(n)))
		}
		wantSame(t, f, p)
		wantSame(t, g, q)
	}
}

// P4.2, R3
func TestCopyAndClear(t *testing.T) {
	for _, seed := range seeds() {
		f, p := filled(seed)
		g := f.Copy()
		g.Clear()
		wantSame(t, f, p)
		wantSame(t, g, newPlain(seed))

		g = f.Copy()
		f.Clear()
		wantSame(t, f, newPlain(seed))
		wantSame(t, g, p)
	}
}

// P4.2, R3
func TestCopyOfACopyAndOfAnEmptyOne(t *testing.T) {
	for _, seed := range seeds() {
		f, p := New(seed), newPlain(seed)
		g := f.Copy().Copy()
		f.Add("never there")
		wantSame(t, g, p)
		wantAdd(t, g, "a", p.add("a"))
		wantSame(t, g, p)
	}
}

// P4.1, R5: what one filter has plays no part in another one of the same seed, and another seed has other places.
func TestFiltersAreApart(t *testing.T) {
	f, g, h := New(1), New(1), New(2)
	for n := range 20 {
		f.Add(key(n))
	}
	wantOnes(t, g, 0)
	for n := range 20 {
		g.Add(key(n))
		h.Add(key(n))
	}
	if *f != *g {
		t.Error("the same seed and texts, other bits")
	}
	if f.words == h.words {
		t.Error("another seed, the same bits")
	}
	f.Clear()
	wantHas(t, g, key(0), true)
}
