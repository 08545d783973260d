package tiny

import (
	"math"
	"slices"
	"strconv"
	"strings"
	"testing"

	"buttery/hash"
)

const greatest = math.MaxUint64

// seeds are ordinary ones, and those from which one of the filter's or of the sketch's seeds goes round.
func seeds() []uint64 {
	return []uint64{0, 1, 2, 7, 12345, 1<<32 - 1, 1 << 63, greatest - 4, greatest - 3, greatest - 2, greatest - 1, greatest}
}

// oddTexts are no text, bytes of every kind, and long ones.
func oddTexts() []string {
	return []string{
		"", " ", "a", "A", "key", "\x00", "\x00\x00", "\x7f", "\x80", "\xff", "\xff\xff\xff", "\r\n", "gr\u00fc\u00dfe, \u4e16\u754c",
		strings.Repeat("x", 250), strings.Repeat("x", 251), strings.Repeat("\xe4\x00", 5000),
	}
}

// key is the n-th of many texts.
func key(n int) string { return "k" + strconv.Itoa(n) }

// plain is what a judge is held against: places that are set, and counters that are numbers like any others.
type plain struct {
	seed     uint64
	set      [512]bool
	counters [4][64]int
	age      int
}

func newPlain(seed uint64) *plain { return &plain{seed: seed} }

func (p *plain) bits(s string) [3]int {
	var l [3]int
	for i := range l {
		l[i] = int(hash.Of(p.seed+uint64(i), s) % 512)
	}
	return l
}

func (p *plain) places(s string) [4]int {
	var l [4]int
	for row := range l {
		l[row] = int(hash.Of(p.seed+1+uint64(row), s) % 64)
	}
	return l
}

func (p *plain) has(s string) bool {
	l := p.bits(s)
	return p.set[l[0]] && p.set[l[1]] && p.set[l[2]]
}

func (p *plain) count(s string) int {
	l := p.places(s)
	return min(p.counters[0][l[0]], p.counters[1][l[1]], p.counters[2][l[2]], p.counters[3][l[3]])
}

func (p *plain) worth(s string) int {
	if p.has(s) {
		return p.count(s) + 1
	}
	return p.count(s)
}

// touch tells whether all was halved.
func (p *plain) touch(s string) bool {
	had := p.has(s)
	for _, place := range p.bits(s) {
		p.set[place] = true
	}
	if !had {
		return false
	}
	for row, place := range p.places(s) {
		p.counters[row][place] = min(p.counters[row][place]+1, 15)
	}
	p.age++
	if p.age != 640 {
		return false
	}
	for row := range p.counters {
		for place := range p.counters[row] {
			p.counters[row][place] /= 2
		}
	}
	p.age = 320
	p.set = [512]bool{}
	return true
}

func (p *plain) ones() int {
	many := 0
	for _, is := range p.set {
		if is {
			many++
		}
	}
	return many
}

func wantWorth(t *testing.T, j *Judge, s string, want int) {
	t.Helper()
	if n := j.Worth(s); n != want {
		t.Errorf("Worth(%.20q) = %d; want %d", s, n, want)
	}
}

func wantAdmit(t *testing.T, j *Judge, s, old string, want bool) {
	t.Helper()
	if is := j.Admit(s, old); is != want {
		t.Errorf("Admit(%.20q, %.20q) = %t; want %t", s, old, is, want)
	}
}

// wantInside asks how many bits the filter has set, and how old the sketch is.
func wantInside(t *testing.T, j *Judge, ones, age int) {
	t.Helper()
	if n, m := j.Ones(), j.counts.Age(); n != ones || m != age {
		t.Errorf("%d bits are set, at age %d; want %d, at %d", n, m, ones, age)
	}
}

// wantSame asks that a judge finds all texts worth what the plain one does.
func wantSame(t *testing.T, j *Judge, p *plain) {
	t.Helper()
	wantInside(t, j, p.ones(), p.age)
	for n := range 300 {
		wantWorth(t, j, key(n), p.worth(key(n)))
		wantAdmit(t, j, key(n), key(n*7%300), p.worth(key(n)) > p.worth(key(n*7%300)))
	}
	for _, s := range oddTexts() {
		wantWorth(t, j, s, p.worth(s))
	}
}

// touchMany touches a text several times.
func touchMany(j *Judge, s string, times int) {
	for range times {
		j.Touch(s)
	}
}

// both touches a text in a judge and in its plain one.
func both(j *Judge, p *plain, s string) {
	j.Touch(s)
	p.touch(s)
}

// some is a text of a long row in which few come often.
func some(n int) string {
	if n%50 == 0 {
		return oddTexts()[n/50%len(oddTexts())]
	}
	return key(n * n % 397)
}

// filled are a judge and its plain one that have seen the same.
func filled(seed uint64, many int) (*Judge, *plain) {
	j, p := New(seed), newPlain(seed)
	for n := range many {
		both(j, p, key(n*n%37))
	}
	return j, p
}

// P6.2, P6.3: the chapter's example.
func TestTheExample(t *testing.T) {
	j := New(1)
	j.Touch("a")
	wantWorth(t, j, "a", 1)
	j.Touch("a")
	wantWorth(t, j, "a", 2)
}

// P6.1, P6.4
func TestNewHasSeenNothing(t *testing.T) {
	for _, seed := range seeds() {
		j := New(seed)
		for _, s := range oddTexts() {
			wantWorth(t, j, s, 0)
			wantAdmit(t, j, s, "a", false)
			wantAdmit(t, j, "a", s, false)
		}
		wantSame(t, j, newPlain(seed))
	}
}

// P6.1: the filter has the judge's seed; texts whose places are one were found outside of the program.
func TestTheSeedOfTheFilter(t *testing.T) {
	for _, c := range []struct {
		seed       uint64
		one, other string
	}{{1, "k1856", "k2798"}, {greatest, "k6858", "k7985"}} {
		j := New(c.seed)
		j.Touch(c.one)
		wantWorth(t, j, c.other, 1)
		j = New(c.seed + 1)
		j.Touch(c.one)
		wantWorth(t, j, c.other, 0)
	}
}

// P6.1: the sketch has the seed with one more, also where that goes round.
func TestTheSeedOfTheSketch(t *testing.T) {
	for _, c := range []struct {
		seed       uint64
		one, other string
	}{{greatest, "k851", "k6003"}, {0, "k1060", "k1205"}, {1, "k4665", "k8017"}} {
		j := New(c.seed)
		touchMany(j, c.one, 4)
		wantWorth(t, j, c.one, 4)
		wantWorth(t, j, c.other, 3)
		for _, seed := range []uint64{c.seed - 1, c.seed + 1} {
			j = New(seed)
			touchMany(j, c.one, 4)
			wantWorth(t, j, c.one, 4)
			wantWorth(t, j, c.other, 0)
		}
	}
}

// P6.1 to P6.3: five thousand touches, and what they come to as worked out outside of the program.
func TestWorthsAsWrittenOut(t *testing.T) {
	for _, c := range []struct {
		seed           uint64
		age, ones, sum int
		first          []int
	}{
		{0, 372, 325, 1421, []int{7, 5, 2, 5, 5, 2, 1, 4, 2, 6, 3, 6}},
		{1, 379, 348, 1462, []int{7, 5, 2, 7, 5, 2, 1, 5, 2, 8, 6, 6}},
		{7, 378, 351, 1469, []int{4, 3, 4, 4, 6, 2, 2, 4, 4, 4, 6, 6}},
		{12345, 403, 351, 1606, []int{3, 5, 1, 5, 6, 3, 2, 5, 2, 6, 7, 10}},
		{1 << 63, 366, 313, 1389, []int{0, 5, 4, 4, 3, 6, 2, 2, 2, 8, 6, 6}},
		{greatest - 1, 371, 312, 1403, []int{4, 4, 1, 5, 4, 1, 4, 2, 3, 4, 4, 7}},
		{greatest, 376, 326, 1492, []int{4, 5, 2, 5, 5, 1, 4, 3, 2, 4, 3, 6}},
	} {
		j := New(c.seed)
		for n := range 5000 {
			j.Touch(key(n * n % 397))
		}
		wantInside(t, j, c.ones, c.age)
		var worths []int
		sum := 0
		for n := range 400 {
			worths = append(worths, j.Worth(key(n)))
			sum += worths[n]
		}
		if sum != c.sum || !slices.Equal(worths[:12], c.first) {
			t.Errorf("seed %x: worths %d, in all %d; want %d, in all %d", c.seed, worths[:12], sum, c.first, c.sum)
		}
	}
}

// P6.2: the first touch goes to the filter alone, the second and the later ones to the sketch, till that is full.
func TestOneTextIsTouched(t *testing.T) {
	for _, seed := range seeds() {
		for _, s := range oddTexts() {
			j, p := New(seed), newPlain(seed)
			both(j, p, s)
			wantInside(t, j, p.ones(), 0)
			wantWorth(t, j, s, 1)
			ones := j.Ones()
			for n := 2; n <= 20; n++ {
				both(j, p, s)
				wantInside(t, j, ones, n-1)
				wantWorth(t, j, s, min(n, 16))
			}
			wantSame(t, j, p)
		}
	}
}

// P6.2: texts that come once each leave the sketch as it was.
func TestTextsThatComeOnce(t *testing.T) {
	j := New(1)
	for _, s := range []string{"", "a", "b", "key"} {
		j.Touch(s)
	}
	wantInside(t, j, 12, 0)
	for _, s := range []string{"", "a", "b", "key"} {
		wantWorth(t, j, s, 1)
	}
}

// P6.2: what the filter has by chance is counted at its first touch.
func TestHadByChance(t *testing.T) {
	j := New(1)
	j.Touch("k1856")
	j.Touch("k2798") // the same places in the filter, others in the sketch
	wantInside(t, j, 3, 1)
	wantWorth(t, j, "k2798", 2)
	wantWorth(t, j, "k1856", 1)
}

// P6.3, P6.4: a text that was never touched has what others give it: by the filter, by the sketch, or nothing.
func TestWorthByChance(t *testing.T) {
	j := New(1)
	for _, s := range []string{"k64", "k377", "k185"} { // each sets one of a's bits
		wantWorth(t, j, "a", 0)
		touchMany(j, s, 2)
	}
	wantWorth(t, j, "a", 1)
	wantAdmit(t, j, "k64", "a", true)
	wantAdmit(t, j, "a", "b", true)

	j = New(1)
	j.Touch("k4665") // all of k8017's counters, none of its bits
	wantWorth(t, j, "k8017", 0)
	touchMany(j, "k4665", 15)
	wantWorth(t, j, "k8017", 15)
	wantWorth(t, j, "k4665", 16)
	wantAdmit(t, j, "k4665", "k8017", true)
	j.Touch("k8017")
	wantWorth(t, j, "k8017", 16)
	wantAdmit(t, j, "k4665", "k8017", false)
	wantAdmit(t, j, "k8017", "k4665", false)
}

// P6.2: the touch behind which all is halved and the filter cleared, and those beside it; twice more.
func TestWhenAllIsHalved(t *testing.T) {
	for _, seed := range []uint64{1, greatest} {
		for _, s := range []string{"", "a"} {
			j := New(seed)
			j.Touch("b")
			touchMany(j, s, 640)
			wantInside(t, j, 6, 639)
			wantWorth(t, j, s, 16)
			wantWorth(t, j, "b", 1)
			j.Touch(s)
			wantInside(t, j, 0, 320)
			wantWorth(t, j, s, 7)
			wantWorth(t, j, "b", 0)
			for range 2 {
				j.Touch(s)
				wantInside(t, j, 3, 320)
				wantWorth(t, j, s, 8)
				j.Touch(s)
				wantInside(t, j, 3, 321)
				wantWorth(t, j, s, 9)
				touchMany(j, s, 318)
				wantInside(t, j, 3, 639)
				wantWorth(t, j, s, 16)
				j.Touch(s)
				wantInside(t, j, 0, 320)
				wantWorth(t, j, s, 7)
			}
		}
	}
}

// P6.2: a text that comes for the first time neither halves nor clears, however near that is.
func TestAFirstTouchNeverHalves(t *testing.T) {
	j := New(1)
	touchMany(j, "a", 640)
	for _, s := range []string{"", "b", "key"} {
		j.Touch(s)
		wantWorth(t, j, s, 1)
	}
	wantInside(t, j, 12, 639)
	j.Touch("b")
	wantInside(t, j, 0, 320)
	wantWorth(t, j, "b", 0) // counted once, ahead of the halving
	wantWorth(t, j, "a", 7)
}

// P6.3: from nothing up to the most, each against each.
func TestAdmitTheOneThatIsWorthMore(t *testing.T) {
	for high := range 18 {
		for low := range 18 {
			j := New(1)
			touchMany(j, "a", high)
			touchMany(j, "", low)
			wantWorth(t, j, "a", min(high, 16))
			wantWorth(t, j, "", min(low, 16))
			wantAdmit(t, j, "a", "", min(high, 16) > min(low, 16))
			wantAdmit(t, j, "", "a", min(low, 16) > min(high, 16))
		}
	}
}

// P6.4
func TestNobodyIsAdmittedInItsOwnPlace(t *testing.T) {
	for _, seed := range seeds() {
		j := New(seed)
		for n := range 1500 {
			for _, s := range []string{some(n), key(n % 60), "", "never touched"} {
				wantAdmit(t, j, s, s, false)
			}
			j.Touch(some(n))
			wantAdmit(t, j, some(n), some(n), false)
		}
	}
}

// P6.3
func TestWorthAndAdmitChangeNothing(t *testing.T) {
	j, p := filled(1, 100)
	for n := range 1000 {
		j.Worth(key(n))
		j.Admit(key(n), "a")
		j.Admit("a", key(n))
	}
	wantSame(t, j, p)
}

// P6.1 to P6.3: step by step, through several halvings.
func TestManyTexts(t *testing.T) {
	for _, seed := range seeds() {
		j, p := New(seed), newPlain(seed)
		halvings := 0
		for n := range 3000 {
			j.Touch(some(n))
			if p.touch(some(n)) {
				halvings++
				wantInside(t, j, 0, 320)
				wantSame(t, j, p)
			}
			wantInside(t, j, p.ones(), p.age)
			wantWorth(t, j, some(n), p.worth(some(n)))
			if n%200 == 0 {
				wantSame(t, j, p)
			}
		}
		wantSame(t, j, p)
		if halvings < 3 {
			t.Errorf("seed %x: %d halvings; want several", seed, halvings)
		}
	}
}

// P6.3, R3: a copy has seen the same, and either goes on without the other, beyond a halving.
func TestCopyAndTouch(t *testing.T) {
	for _, seed := range seeds() {
		for _, many := range []int{0, 1, 2, 100, 660, 900} {
			j, p := filled(seed, many)
			c, q := j.Copy(), *p
			wantSame(t, c, p)
			for n := range 450 {
				both(c, &q, key(100+n%40))
			}
			wantSame(t, j, p)
			wantSame(t, c, &q)
			for n := range 450 {
				both(j, p, key(200+n%30))
			}
			wantSame(t, j, p)
			wantSame(t, c, &q)
		}
	}
}

// P6.3, R3: one touch alone, to the filter or to the sketch, of either.
func TestCopyAndTouchOnce(t *testing.T) {
	for _, s := range []string{"a", "b"} { // a was touched, b was not
		j := New(1)
		j.Touch("a")
		before := j.Worth(s)
		c := j.Copy()
		c.Touch(s)
		wantWorth(t, j, s, before)
		wantWorth(t, c, s, before+1)
		wantAdmit(t, j, "b", "a", false)

		c = j.Copy()
		j.Touch(s)
		wantWorth(t, j, s, before+1)
		wantWorth(t, c, s, before)
		wantAdmit(t, c, "b", "a", false)
	}
}

// P6.3, R3: the one's halving leaves the other's filter and sketch as they are.
func TestCopyAndHalve(t *testing.T) {
	half := func() *Judge {
		j := New(1)
		j.Touch("b")
		touchMany(j, "a", 640)
		return j
	}
	wantHalved := func(halved, other *Judge) {
		t.Helper()
		wantInside(t, halved, 0, 320)
		wantWorth(t, halved, "a", 7)
		wantWorth(t, halved, "b", 0)
		wantInside(t, other, 6, 639)
		wantWorth(t, other, "a", 16)
		wantWorth(t, other, "b", 1)
	}
	j := half()
	c := j.Copy()
	c.Touch("a")
	wantHalved(c, j)
	j = half()
	c = j.Copy()
	j.Touch("a")
	wantHalved(j, c)
}

// P6.3, R3
func TestCopyOfACopyAndOfAnEmptyOne(t *testing.T) {
	for _, seed := range seeds() {
		j, p := New(seed), newPlain(seed)
		c := j.Copy().Copy()
		touchMany(j, "never there", 3)
		wantSame(t, c, p)
		both(c, p, "a")
		both(c, p, "a")
		wantSame(t, c, p)
	}
}

// P6.1, R5: what one judge has seen plays no part in another one of the same seed.
func TestJudgesAreApart(t *testing.T) {
	j, same := New(1), New(1)
	for n := range 60 {
		j.Touch(key(n % 20))
	}
	wantSame(t, same, newPlain(1))
	p := newPlain(1)
	for n := range 60 {
		both(same, p, key(n%20))
	}
	wantSame(t, same, p)
	wantSame(t, j, p)
}
