package sketch

import (
	"math"
	"strconv"
	"strings"
	"testing"

	"buttery/hash"
)

const greatest = math.MaxUint64

// seeds are ordinary ones, and those from which the second, the third or the fourth seed goes round.
func seeds() []uint64 {
	return []uint64{0, 1, 2, 7, 12345, 1<<32 - 1, 1 << 63, greatest - 3, greatest - 2, greatest - 1, greatest}
}

// oddTexts are no text, bytes of every kind, and long ones.
func oddTexts() []string {
	return []string{
		"", " ", "a", "A", "key", "\x00", "\x00\x00", "\x7f", "\x80", "\xff", "\xff\xff\xff", "\r\n", "gr\u00fc\u00dfe, \u4e16\u754c",
		strings.Repeat("x", 250), strings.Repeat("x", 251), strings.Repeat("\xe4\x00", 5000),
	}
}

// key is the n-th of many texts.
func key(n int) string { return "k" + strconv.Itoa(n) }

// plain is what a sketch is held against: its counters are numbers like any others.
type plain struct {
	seed     uint64
	counters [4][64]int
	age      int
}

func newPlain(seed uint64) *plain { return &plain{seed: seed} }

func (p *plain) places(s string) [4]int {
	var l [4]int
	for row := range l {
		l[row] = int(hash.Of(p.seed+uint64(row), s) % 64)
	}
	return l
}

func (p *plain) count(s string) int {
	l := p.places(s)
	return min(p.counters[0][l[0]], p.counters[1][l[1]], p.counters[2][l[2]], p.counters[3][l[3]])
}

func (p *plain) add(s string) bool {
	for row, place := range p.places(s) {
		p.counters[row][place] = min(p.counters[row][place]+1, 15)
	}
	p.age++
	if p.age != 640 {
		return false
	}
	for row := range p.counters {
		for place := range p.counters[row] {
			p.counters[row][place] /= 2
		}
	}
	p.age = 320
	return true
}

func wantAdd(t *testing.T, k *Sketch, s string, want bool) {
	t.Helper()
	if halved := k.Add(s); halved != want {
		t.Errorf("Add(%.20q) = %t; want %t", s, halved, want)
	}
}

// addMany adds a text often enough that nothing is halved.
func addMany(t *testing.T, k *Sketch, s string, times int) {
	t.Helper()
	for range times {
		wantAdd(t, k, s, false)
	}
}

func wantCount(t *testing.T, k *Sketch, s string, want int) {
	t.Helper()
	if n := k.Count(s); n != want {
		t.Errorf("Count(%.20q) = %d; want %d", s, n, want)
	}
}

func wantAge(t *testing.T, k *Sketch, want int) {
	t.Helper()
	if n := k.Age(); n != want {
		t.Errorf("Age() = %d; want %d", n, want)
	}
}

// wantSame asks that a sketch has the plain one's counters, age and counts.
func wantSame(t *testing.T, k *Sketch, p *plain) {
	t.Helper()
	wantAge(t, k, p.age)
	for row := range p.counters {
		for place, want := range p.counters[row] {
			if n := k.counter(row, place); n != want {
				t.Errorf("seed %x: row %d, place %d: %d; want %d", p.seed, row, place, n, want)
			}
		}
	}
	for n := range 300 {
		wantCount(t, k, key(n), p.count(key(n)))
	}
	for _, s := range oddTexts() {
		wantCount(t, k, s, p.count(s))
	}
}

// both adds a text to a sketch and to its plain one.
func both(t *testing.T, k *Sketch, p *plain, s string) {
	t.Helper()
	wantAdd(t, k, s, p.add(s))
}

// P5.2: the chapter's example.
func TestTheExample(t *testing.T) {
	k := New(1)
	wantAdd(t, k, "a", false)
	wantAdd(t, k, "a", false)
	wantCount(t, k, "a", 2)
	wantAge(t, k, 2)
}

// P5.1
func TestNewHasCountedNothing(t *testing.T) {
	for _, seed := range seeds() {
		wantSame(t, New(seed), newPlain(seed))
	}
}

// P5.1: four rows of sixty-four counters, two in a byte.
func TestRowsAndCounters(t *testing.T) {
	if n, m := len(New(1).rows), len(New(1).rows[0]); n != 4 || m != 32 {
		t.Errorf("%d rows of %d bytes; want 4 of 32", n, m)
	}
}

// P5.1: places as worked out outside of the program.
func TestPlacesAsWrittenOut(t *testing.T) {
	for _, c := range []struct {
		seed uint64
		s    string
		want [4]int
	}{
		{0, "", [4]int{0, 61, 40, 26}}, {1, "", [4]int{61, 40, 26, 17}},
		{greatest, "", [4]int{36, 0, 61, 40}}, {greatest - 1, "", [4]int{36, 36, 0, 61}}, {greatest - 2, "", [4]int{6, 36, 36, 0}},
		{1, "a", [4]int{48, 46, 4, 61}}, {1, "b", [4]int{4, 52, 3, 45}}, {1, "key", [4]int{33, 1, 22, 62}},
		{1 << 63, "key", [4]int{63, 17, 11, 18}}, {greatest - 3, "key", [4]int{52, 52, 11, 47}}, {greatest - 2, "key", [4]int{52, 11, 47, 20}},
		{greatest - 1, "key", [4]int{11, 47, 20, 33}}, {greatest, "key", [4]int{47, 20, 33, 1}},
		{0, "\x00", [4]int{0, 29, 58, 13}}, {7, "\x80\xff\x00", [4]int{20, 12, 24, 12}},
		{12345, "gr\u00fc\u00dfe, \u4e16\u754c", [4]int{36, 3, 2, 48}}, {1, strings.Repeat("x", 250), [4]int{7, 43, 44, 9}},
		{1, "k106504", [4]int{20, 20, 20, 20}},
	} {
		k := New(c.seed)
		rows := 0
		for row, place := range k.places(c.s) {
			if row != rows || row >= 4 || place != c.want[row] {
				t.Errorf("seed %x, %.20q: row %d has place %d; want places %d", c.seed, c.s, row, place, c.want)
			}
			rows++
		}
		if rows != 4 {
			t.Errorf("seed %x, %.20q: %d rows; want 4", c.seed, c.s, rows)
		}
		k.Add(c.s)
		p := newPlain(c.seed)
		p.age = 1
		for row, place := range c.want {
			p.counters[row][place] = 1
		}
		wantSame(t, k, p)
	}
}

// P5.1: whoever leaves the places behind one is handed no other.
func TestPlacesMayBeLeft(t *testing.T) {
	for last := range 4 {
		calls := 0
		New(1).places("a")(func(int, int) bool {
			calls++
			return calls <= last
		})
		if calls != last+1 {
			t.Errorf("%d calls; want %d", calls, last+1)
		}
	}
}

// P5.1, P5.2: each text alone, under every seed, till its counters are full and beyond.
func TestOneTextIsCounted(t *testing.T) {
	for _, seed := range seeds() {
		for _, s := range append(oddTexts(), key(38), key(273), key(106504)) {
			k, p := New(seed), newPlain(seed)
			for n := 1; n <= 18; n++ {
				both(t, k, p, s)
				wantCount(t, k, s, min(n, 15))
				wantAge(t, k, n)
			}
			wantSame(t, k, p)
		}
	}
}

// P5.2: a full counter stays, and nothing of it goes over to its neighbour in the byte, while those that are not full go on.
func TestACounterStopsAtFifteen(t *testing.T) {
	// In each row the two stand in one byte, in turns one above the other.
	const one, other = "k2245", "k3848"
	k := New(1)
	addMany(t, k, one, 14)
	wantCount(t, k, one, 14)
	addMany(t, k, one, 1)
	wantCount(t, k, one, 15)
	wantCount(t, k, other, 0)
	addMany(t, k, one, 5)
	wantCount(t, k, one, 15)
	wantCount(t, k, other, 0)
	addMany(t, k, other, 14)
	wantCount(t, k, one, 15)
	wantCount(t, k, other, 14)
	addMany(t, k, other, 3)
	wantCount(t, k, one, 15)
	wantCount(t, k, other, 15)
	wantAge(t, k, 37)
}

// P5.2: what is full in one row is still counted in the others.
func TestFullInOneRowAlone(t *testing.T) {
	for row, s := range []string{"k21", "k60", "k105", "k69"} { // each shares that row's place with a, and no other
		k, p := New(1), newPlain(1)
		for range 15 {
			both(t, k, p, s)
		}
		wantCount(t, k, "a", 0)
		for n := 1; n <= 3; n++ {
			both(t, k, p, "a")
			wantCount(t, k, "a", n)
		}
		wantCount(t, k, s, 15)
		if p.counters[row][p.places("a")[row]] != 15 {
			t.Errorf("%s does not share row %d", s, row)
		}
		wantSame(t, k, p)
	}
}

// P5.1: a text whose place is one in all rows is counted once in each.
func TestPlacesThatAreOne(t *testing.T) {
	k, p := New(1), newPlain(1)
	both(t, k, p, "k106504")
	wantCount(t, k, "k106504", 1)
	for row := range 4 {
		if n := k.counter(row, 20); n != 1 {
			t.Errorf("row %d: %d; want 1", row, n)
		}
	}
	wantSame(t, k, p)
}

// P5.2, P5.3: texts that share all places are counted as one.
func TestTextsThatShareAllPlaces(t *testing.T) {
	k := New(1)
	addMany(t, k, "k1060", 3)
	wantCount(t, k, "k1205", 3)
	addMany(t, k, "k1205", 4)
	wantCount(t, k, "k1060", 7)
	wantCount(t, k, "k1205", 7)
	addMany(t, k, "k1060", 9)
	wantCount(t, k, "k1205", 15)
}

// P5.2: the least is told, whichever row has it.
func TestTheLeastIsTold(t *testing.T) {
	for _, s := range []string{"k181266", "k182887", "k113122", "k61040"} { // each shares three of a's places: all but the row 0, 1, 2, 3
		k := New(1)
		addMany(t, k, s, 9)
		wantCount(t, k, s, 9)
		wantCount(t, k, "a", 0)
		addMany(t, k, "a", 2)
		wantCount(t, k, "a", 2)
		wantCount(t, k, s, 9)
	}
	k := New(1)
	for many, s := range []string{"k21", "k60", "k105", "k69"} { // each shares one of a's places
		wantCount(t, k, "a", 0)
		addMany(t, k, s, many+3)
	}
	wantCount(t, k, "a", 3)
}

// P5.2
func TestCountAndAgeChangeNothing(t *testing.T) {
	k, p := New(1), newPlain(1)
	for n := range 50 {
		both(t, k, p, key(n%7))
	}
	for range 1000 {
		k.Count("a")
		k.Count(key(1))
		k.Age()
	}
	wantSame(t, k, p)
}

// P5.2: the 639th, the 640th and the 641st addition, and the 320 behind a halving, twice.
func TestWhenAllIsHalved(t *testing.T) {
	for _, s := range []string{"", "a"} {
		k := New(1)
		for n := 1; n <= 639; n++ {
			wantAdd(t, k, s, false)
			wantAge(t, k, n)
			wantCount(t, k, s, min(n, 15))
		}
		wantAdd(t, k, s, true)
		wantAge(t, k, 320)
		wantCount(t, k, s, 7)
		for range 2 {
			for n := 1; n <= 319; n++ {
				wantAdd(t, k, s, false)
				wantAge(t, k, 320+n)
				wantCount(t, k, s, min(7+n, 15))
			}
			wantAdd(t, k, s, true)
			wantAge(t, k, 320)
			wantCount(t, k, s, 7)
		}
	}
}

// P5.2: each number of a counter is halved, rounded down, whichever one stands beside it in its byte.
func TestEachCounterIsHalved(t *testing.T) {
	for below := range 16 {
		for above := range 16 {
			k, p := New(1), newPlain(1)
			for row := range 4 {
				for place := range 64 {
					n := below
					if place%2 == 1 {
						n = above
					}
					p.counters[row][place] = n
					k.rows[row][place/2] |= byte(n) << (place % 2 * 4)
				}
			}
			k.age, p.age = 639, 639
			wantSame(t, k, p)
			wantAdd(t, k, "a", p.add("a"))
			wantSame(t, k, p)
			if p.counters[0][0] != below/2 || p.counters[3][63] != above/2 || p.age != 320 {
				t.Error("the plain one is not halved")
			}
		}
	}
}

// P5.2: the text that brings the halving is counted ahead of it.
func TestTheLastOneIsHalvedToo(t *testing.T) {
	for times, want := range []int{0, 1, 1, 2, 2, 3, 3, 4} {
		k := New(1)
		addMany(t, k, "a", times)
		addMany(t, k, "b", 639-times)
		wantCount(t, k, "a", times)
		wantAdd(t, k, "a", true)
		wantCount(t, k, "a", want)
		wantCount(t, k, "b", 7)
		wantAge(t, k, 320)
	}
}

// P5.2: one that is halved over and over is forgotten.
func TestWhatIsOldIsForgotten(t *testing.T) {
	k := New(1)
	addMany(t, k, "a", 15)
	addMany(t, k, "b", 624)
	for _, want := range []int{7, 3, 1, 0, 0} {
		wantAdd(t, k, "b", true)
		wantCount(t, k, "a", want)
		addMany(t, k, "b", 319)
	}
}

// P5.2: step by step, through several halvings.
func TestManyTexts(t *testing.T) {
	for _, seed := range seeds() {
		k, p := New(seed), newPlain(seed)
		for n := range 2000 {
			s := key(n * n % 397)
			if n%50 == 0 {
				s = oddTexts()[n/50%len(oddTexts())]
			}
			both(t, k, p, s)
			wantCount(t, k, s, p.count(s))
			wantAge(t, k, p.age)
			if n%160 == 0 || n >= 637 && n <= 641 {
				wantSame(t, k, p)
			}
		}
		wantSame(t, k, p)
	}
}

// P5.3
func TestNoCountIsTooLittle(t *testing.T) {
	for _, seed := range seeds() {
		k := New(seed)
		added := map[string]int{}
		for n := range 639 {
			s := key(n * n % 61)
			if n%3 == 0 {
				s = oddTexts()[n/3%len(oddTexts())]
			}
			wantAdd(t, k, s, false)
			added[s]++
			for s, times := range added {
				if got := k.Count(s); got < min(times, 15) || got > 15 {
					t.Errorf("seed %x: Count(%.20q) = %d, and it was added %d times", seed, s, got, times)
				}
			}
		}
	}
}

// P5.2
func TestTheOrderOfAddingPlaysNoPart(t *testing.T) {
	for _, seed := range seeds() {
		k, back, p := New(seed), New(seed), newPlain(seed)
		for n := range 640 {
			both(t, k, p, key(n%70))
			back.Add(key((639 - n) % 70))
		}
		wantSame(t, k, p)
		wantSame(t, back, p)
		if *k != *back {
			t.Errorf("seed %x: another order, other counters", seed)
		}
	}
}

// filled are a sketch and its plain one, with some texts added to both.
func filled(t *testing.T, seed uint64, many int) (*Sketch, *plain) {
	t.Helper()
	k, p := New(seed), newPlain(seed)
	for n := range many {
		both(t, k, p, key(n*n%37))
	}
	return k, p
}

// P5.2, R3: a copy has the seed, the counters and the age, and either goes on without the other, beyond a halving.
func TestCopyAndAdd(t *testing.T) {
	for _, seed := range seeds() {
		for _, many := range []int{0, 1, 100, 639, 640, 700} {
			k, p := filled(t, seed, many)
			c, q := k.Copy(), *p
			wantSame(t, c, p)
			for n := range 330 {
				both(t, c, &q, key(100+n%40))
			}
			wantSame(t, k, p)
			wantSame(t, c, &q)
			for n := range 350 {
				both(t, k, p, key(200+n%30))
			}
			wantSame(t, k, p)
			wantSame(t, c, &q)
		}
	}
}

// P5.2, R3: the one halving is the one's own.
func TestCopyAndHalve(t *testing.T) {
	for _, seed := range seeds() {
		k, p := filled(t, seed, 639)
		c, q := k.Copy(), *p
		both(t, c, &q, "a")
		wantAge(t, k, 639)
		wantAge(t, c, 320)
		wantSame(t, k, p)
		wantSame(t, c, &q)

		k, p = filled(t, seed, 639)
		c, q = k.Copy(), *p
		both(t, k, p, "a")
		wantAge(t, k, 320)
		wantAge(t, c, 639)
		wantSame(t, k, p)
		wantSame(t, c, &q)
	}
}

// P5.2, R3
func TestCopyOfACopyAndOfAnEmptyOne(t *testing.T) {
	for _, seed := range seeds() {
		k, p := New(seed), newPlain(seed)
		c := k.Copy().Copy()
		k.Add("never there")
		wantSame(t, c, p)
		both(t, c, p, "a")
		wantSame(t, c, p)
	}
}

// P5.1, R5: what one sketch has counted plays no part in another one of the same seed, and another seed has other places.
func TestSketchesAreApart(t *testing.T) {
	k, same, other := New(1), New(1), New(2)
	for n := range 20 {
		k.Add(key(n))
	}
	wantSame(t, same, newPlain(1))
	for n := range 20 {
		same.Add(key(n))
		other.Add(key(n))
	}
	if *k != *same {
		t.Error("the same seed and texts, other counters")
	}
	if k.rows == other.rows {
		t.Error("another seed, the same counters")
	}
}
