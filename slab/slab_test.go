package slab

import (
	"math"
	"slices"
	"testing"

	"buttery/api"
)

// allBytes are the Bytes of all classes, as written out.
func allBytes() []int { return []int{64, 128, 256, 512, 1024, 2048} }

// oddNumbers are the ends of the ints, and what stands about the edges of classes.
func oddNumbers() []int {
	return []int{
		math.MinInt, math.MinInt + 1, math.MinInt + 64, math.MinInt32, -2049, -2048, -65, -64, -2, -1, 0, 1, 2, 5, 6, 7,
		63, 64, 65, 2047, 2048, 2049, math.MaxInt32, math.MaxInt - 2048, math.MaxInt - 64, math.MaxInt - 1, math.MaxInt,
	}
}

func chunk(class, no int) api.Chunk { return api.Chunk{Class: class, No: no} }

// plain is what a slab is held against: chunks in use and chunks that were let go, as they came, of all classes together.
type plain struct {
	budget     int
	inUse, old []api.Chunk
	anew       []api.Chunk
}

func (p *plain) used() int {
	sum := 0
	for _, c := range p.inUse {
		sum += allBytes()[c.Class]
	}
	return sum
}

// fits is told without sums that may go round: budgets here are small, or the greatest of all.
func (p *plain) fits(size, less int) bool {
	used := p.used()
	if size > 2048 || less < 0 || less > used {
		return false
	}
	return float64(used)-float64(less)+float64(allBytes()[classOf(size)]) <= float64(p.budget)
}

func classOf(size int) int {
	return slices.IndexFunc(allBytes(), func(many int) bool { return many >= size })
}

func (p *plain) take(size int) (api.Chunk, api.Errno) {
	if size > 2048 {
		return api.Chunk{}, api.ErrLong
	}
	if !p.fits(size, 0) {
		return api.Chunk{}, api.ErrFull
	}
	c := p.next(classOf(size))
	p.inUse = append(p.inUse, c)
	return c, api.OK
}

func (p *plain) next(class int) api.Chunk {
	for i, c := range slices.Backward(p.old) {
		if c.Class == class {
			p.old = slices.Delete(p.old, i, i+1)
			return c
		}
	}
	no := 0
	for _, c := range p.anew {
		if c.Class == class {
			no++
		}
	}
	p.anew = append(p.anew, chunk(class, no))
	return chunk(class, no)
}

func (p *plain) free(c api.Chunk) api.Errno {
	i := slices.Index(p.inUse, c)
	if i < 0 {
		return api.ErrArg
	}
	p.inUse = slices.Delete(p.inUse, i, i+1)
	p.old = append(p.old, c)
	return api.OK
}

func wantTake(t *testing.T, s *Slab, size int, want api.Chunk, e api.Errno) {
	t.Helper()
	if c, f := s.Take(size); c != want || f != e {
		t.Errorf("Take(%d) = %v, %d; want %v, %d", size, c, f, want, e)
	}
}

func wantFree(t *testing.T, s *Slab, c api.Chunk, e api.Errno) {
	t.Helper()
	if f := s.Free(c); f != e {
		t.Errorf("Free(%v) = %d; want %d", c, f, e)
	}
}

func wantHas(t *testing.T, s *Slab, c api.Chunk, want bool) {
	t.Helper()
	if is := s.Has(c); is != want {
		t.Errorf("Has(%v) = %t; want %t", c, is, want)
	}
}

func wantUsed(t *testing.T, s *Slab, want int) {
	t.Helper()
	if n := s.Used(); n != want {
		t.Errorf("Used() = %d; want %d", n, want)
	}
}

func wantFits(t *testing.T, s *Slab, size, less int, want bool) {
	t.Helper()
	if is := s.Fits(size, less); is != want {
		t.Errorf("Fits(%d, %d) = %t, with %d in use; want %t", size, less, is, s.Used(), want)
	}
}

// wantSame asks that a slab tells what the plain one does.
func wantSame(t *testing.T, s *Slab, p *plain) {
	t.Helper()
	used := p.used()
	wantUsed(t, s, used)
	for class := -1; class <= 6; class++ {
		for no := -1; no < 12; no++ {
			wantHas(t, s, chunk(class, no), slices.Contains(p.inUse, chunk(class, no)))
		}
	}
	for _, size := range append(oddNumbers(), 128, 129, 300, 1000) {
		for _, less := range append(oddNumbers(), 128, 192, 256, used-65, used-64, used-1, used, used+1, used+64) {
			wantFits(t, s, size, less, p.fits(size, less))
		}
	}
}

// takeAll takes chunks of one size, and asks that all are of a class and are numbered from 0 on.
func takeAll(t *testing.T, s *Slab, size, class, many int) {
	t.Helper()
	for no := range many {
		wantTake(t, s, size, chunk(class, no), api.OK)
	}
}

// P7.2: the chapter's example.
func TestTheExample(t *testing.T) {
	s := New(200)
	wantTake(t, s, 65, chunk(1, 0), api.OK)
	wantTake(t, s, 1, chunk(0, 0), api.OK)
	wantTake(t, s, 1, api.Chunk{}, api.ErrFull)
	wantUsed(t, s, 192)
}

// P7.1
func TestBytesOfClasses(t *testing.T) {
	for class, want := range allBytes() {
		if n := Bytes(class); n != want {
			t.Errorf("Bytes(%d) = %d; want %d", class, n, want)
		}
	}
}

// P7.1: there is no class below 0, and none from 6 on.
func TestBytesOfNoClass(t *testing.T) {
	classes := []int{-64, -8, -6, 8, 32, 57, 58, 62, 256}
	for _, class := range append(classes, oddNumbers()...) {
		if class >= 0 && class < 6 {
			continue
		}
		if n := Bytes(class); n != 0 {
			t.Errorf("Bytes(%d) = %d; want 0", class, n)
		}
	}
}

// P7.1: each size that has a class, the edges as written out.
func TestClassOfSizes(t *testing.T) {
	for size := -10; size <= 2048; size++ {
		want := 0
		switch {
		case size >= 1025:
			want = 5
		case size >= 513:
			want = 4
		case size >= 257:
			want = 3
		case size >= 129:
			want = 2
		case size >= 65:
			want = 1
		}
		if class, e := Class(size); class != want || e != api.OK {
			t.Errorf("Class(%d) = %d, %d; want %d, 0", size, class, e, want)
		}
	}
}

// P7.1, P7.2, P7.3: below 1 a size is the least there is, above 2048 it is too long, as far as ints go.
func TestSizesThatAreOdd(t *testing.T) {
	for _, size := range []int{0, -1, -64, -65, -2048, -2049, math.MinInt32, math.MinInt + 1, math.MinInt} {
		if class, e := Class(size); class != 0 || e != api.OK {
			t.Errorf("Class(%d) = %d, %d; want 0, 0", size, class, e)
		}
		s := New(64)
		wantFits(t, s, size, 0, true)
		wantTake(t, s, size, chunk(0, 0), api.OK)
		wantUsed(t, s, 64)
		wantFits(t, s, size, 0, false)
		wantTake(t, s, size, api.Chunk{}, api.ErrFull)
	}
	for _, size := range []int{2049, 2050, 4096, 4097, math.MaxInt32, math.MaxInt - 2048, math.MaxInt - 1, math.MaxInt} {
		if class, e := Class(size); class != 0 || e != api.ErrLong {
			t.Errorf("Class(%d) = %d, %d; want 0, 4", size, class, e)
		}
		for _, budget := range []int{math.MinInt, 0, 64, 10000, math.MaxInt} {
			s := New(budget)
			wantFits(t, s, size, 0, false)
			wantTake(t, s, size, api.Chunk{}, api.ErrLong)
			wantSame(t, s, &plain{budget: budget})
		}
	}
}

// P7.2: a size without a class is too long also where there is no room.
func TestLongAheadOfFull(t *testing.T) {
	s := New(64)
	wantTake(t, s, 1, chunk(0, 0), api.OK)
	wantTake(t, s, 2048, api.Chunk{}, api.ErrFull)
	wantTake(t, s, 2049, api.Chunk{}, api.ErrLong)
}

// P7.2, P7.4
func TestNewHasNoChunks(t *testing.T) {
	for _, budget := range oddNumbers() {
		s := New(budget)
		wantSame(t, s, &plain{budget: budget})
		for class := -1; class <= 6; class++ {
			wantFree(t, s, chunk(class, 0), api.ErrArg)
		}
		wantUsed(t, s, 0)
	}
}

// P7.2 to P7.4: with a budget below 64 there is room for nothing.
func TestBudgetsWithoutRoom(t *testing.T) {
	for _, budget := range []int{math.MinInt, math.MinInt + 1, math.MinInt + 64, math.MinInt + 2048, -2048, -64, -1, 0, 1, 63} {
		s := New(budget)
		for _, size := range []int{math.MinInt, -1, 0, 1, 64, 65, 2048} {
			wantTake(t, s, size, api.Chunk{}, api.ErrFull)
			wantFits(t, s, size, 0, false)
		}
		wantSame(t, s, &plain{budget: budget})
	}
}

// P7.2 to P7.4
func TestTheGreatestBudget(t *testing.T) {
	for _, budget := range []int{math.MaxInt, math.MaxInt - 1, math.MaxInt - 2048} {
		s, sum := New(budget), 0
		for class, many := range allBytes() {
			takeAll(t, s, many, class, 300)
			sum += 300 * many
			wantUsed(t, s, sum)
		}
		for _, size := range []int{math.MinInt, 0, 64, 65, 2048} {
			for _, less := range []int{0, 1, 2048, sum - 1, sum} {
				wantFits(t, s, size, less, true)
			}
			for _, less := range []int{math.MinInt, -1, sum + 1, math.MaxInt} {
				wantFits(t, s, size, less, false)
			}
		}
		wantFits(t, s, 2049, 0, false)
	}
}

// P7.2 to P7.4: each class fills a budget that it meets just so, and lacks one byte of a lesser one.
func TestBudgetsThatAreMetJustSo(t *testing.T) {
	for class, many := range allBytes() {
		for times := 1; times <= 5; times++ {
			s := New(times * many)
			takeAll(t, s, many, class, times)
			wantUsed(t, s, times*many)
			wantFits(t, s, 1, 0, false)
			wantTake(t, s, 1, api.Chunk{}, api.ErrFull)

			s = New(times*many - 1)
			takeAll(t, s, many, class, times-1)
			wantFits(t, s, many, 0, false)
			wantTake(t, s, many, api.Chunk{}, api.ErrFull)
			wantUsed(t, s, (times-1)*many)
		}
	}
}

// P7.2: what counts is what a class has, not what was asked for; classes share the budget, and a greater one's lack is not a lesser one's.
func TestClassesShareTheBudget(t *testing.T) {
	s := New(4032)
	for class, size := range []int{1, 65, 129, 257, 513, 1025} {
		wantTake(t, s, size, chunk(class, 0), api.OK)
	}
	wantUsed(t, s, 4032)
	for _, size := range []int{1, 65, 129, 257, 513, 1025} {
		wantTake(t, s, size, api.Chunk{}, api.ErrFull)
	}
	wantFree(t, s, chunk(2, 0), api.OK)
	wantUsed(t, s, 3776)
	wantTake(t, s, 257, api.Chunk{}, api.ErrFull)
	wantTake(t, s, 100, chunk(1, 1), api.OK)
	wantTake(t, s, 129, api.Chunk{}, api.ErrFull)
	wantTake(t, s, 100, chunk(1, 2), api.OK)
	wantUsed(t, s, 4032)
}

// P7.2: numbers are told from 0 on in each class alone.
func TestNumbersOfClassesAreApart(t *testing.T) {
	s := New(100000)
	for no := range 20 {
		for class, many := range allBytes() {
			wantHas(t, s, chunk(class, no), false)
			wantTake(t, s, many, chunk(class, no), api.OK)
			wantHas(t, s, chunk(class, no), true)
		}
	}
	wantUsed(t, s, 20*4032)
}

// P7.2, P7.4: the last one first, and a new number only where none is left.
func TestLetGoAndTakenAgain(t *testing.T) {
	for class, many := range allBytes() {
		s := New(10 * many)
		takeAll(t, s, many, class, 6)
		for _, no := range []int{4, 0, 5, 2} {
			wantFree(t, s, chunk(class, no), api.OK)
			wantHas(t, s, chunk(class, no), false)
		}
		wantUsed(t, s, 2*many)
		for _, no := range []int{2, 5, 0, 4, 6, 7} {
			wantTake(t, s, many, chunk(class, no), api.OK)
			wantHas(t, s, chunk(class, no), true)
		}
		wantUsed(t, s, 8*many)
	}
}

// P7.2: one that was taken again and let go again is the last of all then, and stands there once.
func TestLetGoBetweenTakes(t *testing.T) {
	s := New(640)
	takeAll(t, s, 1, 0, 4)
	wantFree(t, s, chunk(0, 1), api.OK)
	wantFree(t, s, chunk(0, 3), api.OK)
	wantTake(t, s, 1, chunk(0, 3), api.OK)
	wantFree(t, s, chunk(0, 0), api.OK)
	wantFree(t, s, chunk(0, 3), api.OK)
	wantTake(t, s, 1, chunk(0, 3), api.OK)
	wantTake(t, s, 1, chunk(0, 0), api.OK)
	wantTake(t, s, 1, chunk(0, 1), api.OK)
	wantTake(t, s, 1, chunk(0, 4), api.OK)
	wantUsed(t, s, 320)
}

// P7.2: what another class has let go is not taken.
func TestLetGoByAnotherClass(t *testing.T) {
	s := New(1000)
	takeAll(t, s, 64, 0, 3)
	takeAll(t, s, 65, 1, 3)
	wantFree(t, s, chunk(0, 2), api.OK)
	wantFree(t, s, chunk(1, 1), api.OK)
	wantFree(t, s, chunk(1, 0), api.OK)
	wantTake(t, s, 1, chunk(0, 2), api.OK)
	wantTake(t, s, 1, chunk(0, 3), api.OK)
	wantTake(t, s, 129, chunk(2, 0), api.OK)
	wantTake(t, s, 65, chunk(1, 0), api.OK)
}

// P7.2: a new number hangs on how many were ever taken anew, not on how many are in use.
func TestNewNumbersGoOn(t *testing.T) {
	s := New(64)
	for range 5 {
		wantTake(t, s, 1, chunk(0, 0), api.OK)
		wantFree(t, s, chunk(0, 0), api.OK)
	}
	s = New(192)
	takeAll(t, s, 1, 0, 2)
	wantFree(t, s, chunk(0, 0), api.OK)
	wantTake(t, s, 1, chunk(0, 0), api.OK)
	wantTake(t, s, 1, chunk(0, 2), api.OK)
}

// P7.2: with an error nothing changes: no number is used up, and none is lost that was let go.
func TestErrorsChangeNothing(t *testing.T) {
	s := New(320)
	takeAll(t, s, 1, 0, 5)
	wantFree(t, s, chunk(0, 3), api.OK)
	wantFree(t, s, chunk(0, 1), api.OK)
	for range 3 {
		wantTake(t, s, 129, api.Chunk{}, api.ErrFull)
		wantTake(t, s, 5000, api.Chunk{}, api.ErrLong)
		wantFree(t, s, chunk(0, 1), api.ErrArg)
		wantFree(t, s, chunk(2, 0), api.ErrArg)
		wantUsed(t, s, 192)
	}
	wantTake(t, s, 1, chunk(0, 1), api.OK)
	wantTake(t, s, 1, chunk(0, 3), api.OK)
	for range 3 {
		wantTake(t, s, 1, api.Chunk{}, api.ErrFull)
	}
	for no := range 5 {
		wantFree(t, s, chunk(0, no), api.OK)
	}
	wantTake(t, s, 129, chunk(2, 0), api.OK)
	wantTake(t, s, 64, chunk(0, 4), api.OK)
}

// P7.2: chunks that are none, or are not in use.
func TestFreeOfWhatIsNotInUse(t *testing.T) {
	s := New(4032)
	for _, many := range allBytes() {
		s.Take(many)
	}
	for _, class := range oddNumbers() {
		for _, no := range oddNumbers() {
			if class >= 0 && class < 6 && no == 0 {
				continue
			}
			wantHas(t, s, chunk(class, no), false)
			wantFree(t, s, chunk(class, no), api.ErrArg)
		}
	}
	wantUsed(t, s, 4032)
	for class := range allBytes() {
		wantHas(t, s, chunk(class, 0), true)
		wantFree(t, s, chunk(class, 0), api.OK)
		wantHas(t, s, chunk(class, 0), false)
		wantFree(t, s, chunk(class, 0), api.ErrArg)
	}
	wantUsed(t, s, 0)
	for class, many := range allBytes() {
		wantTake(t, s, many, chunk(class, 0), api.OK)
	}
}

// P7.2
func TestLetGoTwice(t *testing.T) {
	s := New(256)
	takeAll(t, s, 1, 0, 3)
	wantFree(t, s, chunk(0, 1), api.OK)
	wantFree(t, s, chunk(0, 1), api.ErrArg)
	wantUsed(t, s, 128)
	wantTake(t, s, 1, chunk(0, 1), api.OK)
	wantTake(t, s, 1, chunk(0, 3), api.OK)
	wantUsed(t, s, 256)
}

// P7.3: less from 0 to Used, and what stands beside these; as written out.
func TestFits(t *testing.T) {
	s := New(400)
	takeAll(t, s, 128, 1, 2)
	for _, c := range []struct {
		size, less int
		want       bool
	}{
		{1, 0, true}, {64, 0, true}, {128, 0, true}, {129, 0, false}, {2048, 0, false}, {2049, 0, false},
		{129, 111, false}, {129, 112, true}, {256, 112, true}, {257, 112, false}, {256, 128, true}, {257, 255, false}, {257, 256, false},
		{256, 256, true}, {1, 256, true}, {0, 256, true}, {-1, 0, true}, {math.MinInt, 0, true}, {math.MinInt, 256, true},
		{1, -1, false}, {1, 257, false}, {1, -128, false}, {1, 400, false}, {2048, 4000, false}, {2049, 256, false},
		{1, math.MinInt, false}, {1, math.MaxInt, false}, {math.MinInt, math.MinInt, false}, {math.MinInt, math.MaxInt, false},
		{math.MaxInt, 0, false}, {math.MaxInt, 256, false}, {math.MaxInt, math.MaxInt, false}, {math.MaxInt, math.MinInt, false},
	} {
		wantFits(t, s, c.size, c.less, c.want)
	}
	wantUsed(t, s, 256)
	wantTake(t, s, 100, chunk(1, 2), api.OK)
}

// P7.3: just the Bytes that are lacking must be less.
func TestFitsWhenFull(t *testing.T) {
	for _, most := range []int{2048, 4096, 5000} {
		s := New(most)
		takeAll(t, s, 1, 0, most/64)
		room := most % 64
		for _, many := range allBytes() {
			wantFits(t, s, many, many-room-1, false)
			wantFits(t, s, many, many-room, true)
			wantFits(t, s, many, most-room, true)
			wantFits(t, s, many, most-room+1, false)
		}
	}
}

// P7.2, P7.3: without less, what fits is just what may be taken.
func TestFitsTellsWhatMayBeTaken(t *testing.T) {
	for budget := 0; budget < 1000; budget += 32 {
		s := New(budget)
		for n := range 30 {
			size := n * 61 % 700
			fits := s.Fits(size, 0)
			if _, e := s.Take(size); fits != (e == api.OK) {
				t.Errorf("budget %d: Fits(%d, 0) = %t, Take: %d", budget, size, fits, e)
			}
		}
	}
}

// numbers are some that look as if by chance, the same each time.
func numbers(start uint64) func(below int) int {
	return func(below int) int {
		start = start*6364136223846793005 + 1442695040888963407
		return int(start >> 33 % uint64(below))
	}
}

// step does the same to a slab and to its plain one.
func step(t *testing.T, s *Slab, p *plain, pick func(int) int) {
	t.Helper()
	switch pick(8) {
	case 0, 1, 2:
		size := pick(2100) >> pick(7)
		c, e := p.take(size)
		wantTake(t, s, size, c, e)
	case 3, 4:
		c, e := p.take(1)
		wantTake(t, s, 1, c, e)
	case 5:
		c := chunk(pick(8)-1, pick(12)-1)
		wantFree(t, s, c, p.free(c))
	default:
		if len(p.inUse) > 0 {
			c := p.inUse[pick(len(p.inUse))]
			wantFree(t, s, c, p.free(c))
		}
	}
}

// P7.2 to P7.4: long rows of takes and frees, step by step.
func TestManySteps(t *testing.T) {
	for _, budget := range []int{-1, 0, 64, 130, 500, 2048, 4032, 10000, math.MaxInt} {
		for start := range uint64(5) {
			s, p, pick := New(budget), &plain{budget: budget}, numbers(start)
			for n := range 800 {
				step(t, s, p, pick)
				wantUsed(t, s, p.used())
				if s.Used() < 0 || s.Used() > max(budget, 0) {
					t.Errorf("%d in use; the budget is %d", s.Used(), budget)
				}
				if n%100 == 0 {
					wantSame(t, s, p)
				}
			}
			wantSame(t, s, p)
		}
	}
}

// P7.4: of all that are taken and not let go none is handed out once more.
func TestNoChunkIsInUseTwice(t *testing.T) {
	s, pick := New(20000), numbers(9)
	held := map[api.Chunk]bool{}
	for range 5000 {
		if c, e := s.Take(pick(2049)); e == api.OK {
			if held[c] {
				t.Fatalf("%v is in use twice", c)
			}
			held[c] = true
		}
		c := chunk(pick(6), pick(30))
		if is := s.Free(c) == api.OK; is != held[c] {
			t.Fatalf("Free(%v): %t; is it held: %t", c, is, held[c])
		}
		delete(held, c)
	}
}

// P7.2, R5: what one slab has plays no part in another one.
func TestSlabsAreApart(t *testing.T) {
	s, other := New(256), New(256)
	takeAll(t, s, 1, 0, 4)
	wantSame(t, other, &plain{budget: 256})
	wantFree(t, other, chunk(0, 0), api.ErrArg)
	takeAll(t, other, 1, 0, 2)
	wantFree(t, other, chunk(0, 0), api.OK)
	wantHas(t, s, chunk(0, 0), true)
	wantUsed(t, s, 256)
	wantUsed(t, other, 64)
}

// P7.2, R3: a chunk that was answered is the caller's own.
func TestAnsweredChunksAreTheCallersOwn(t *testing.T) {
	s := New(256)
	c, _ := s.Take(1)
	c.No, c.Class = 7, 3
	wantHas(t, s, chunk(0, 0), true)
	wantHas(t, s, c, false)
	wantFree(t, s, c, api.ErrArg)
}
