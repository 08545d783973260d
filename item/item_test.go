package item

import (
	"bytes"
	"math"
	"reflect"
	"strings"
	"testing"

	"buttery/api"
)

const (
	month   = 2592000
	maxTime = 1 << 40
	maxNow  = 1 << 41 // the greatest second of which At says something
)

// oddNumbers are the ends of the ints, and what stands about the edges of times.
func oddNumbers() []int {
	return []int{
		math.MinInt, math.MinInt + 1, -maxNow, -maxTime, -month - 1, -month, math.MinInt32, -2, -1, 0, 1, 2, 5,
		month - 1, month, month + 1, math.MaxInt32, maxTime - 1, maxTime, maxTime + 1, maxNow, math.MaxInt - month, math.MaxInt - 1, math.MaxInt,
	}
}

func oddSeqs() []uint64 { return []uint64{0, 1, 2, 1 << 63, math.MaxUint64 - 1, math.MaxUint64} }

// odd is an item of which all that plays no part in how long it lives is set.
func odd(it api.Item) api.Item {
	it.Key, it.Value, it.Flags, it.CAS = "key", []byte("value"), math.MaxUint32, math.MaxUint64
	it.Stale, it.Won, it.Seen = true, true, true
	return it
}

func wantAt(t *testing.T, exp, now, want int) {
	t.Helper()
	if sec := At(exp, now); sec != want {
		t.Errorf("At(%d, %d) = %d; want %d", exp, now, sec, want)
	}
}

func wantTTL(t *testing.T, exp, now, want int) {
	t.Helper()
	for _, it := range []api.Item{{Exp: exp}, {Exp: exp, Sec: 1, Seq: 1}, odd(api.Item{Exp: exp, Sec: math.MaxInt, Seq: math.MaxUint64})} {
		if left := TTL(it, now); left != want {
			t.Errorf("TTL(%+v, %d) = %d; want %d", it, now, left, want)
		}
	}
}

// wantLive asks for the item alone, and with all else of item and env that plays no part.
func wantLive(t *testing.T, it api.Item, env api.Env, want bool) {
	t.Helper()
	for _, seq := range []uint64{0, 7, math.MaxUint64} {
		env.Seq = seq
		if Live(it, env) != want || Live(odd(it), env) != want {
			t.Errorf("Live(%+v, %+v) = %t, odd %t; want %t", it, env, Live(it, env), Live(odd(it), env), want)
		}
	}
}

func wantFlush(t *testing.T, exp int, env, want api.Env) {
	t.Helper()
	if got := Flush(exp, env); got != want {
		t.Errorf("Flush(%d, %+v) = %+v; want %+v", exp, env, got, want)
	}
}

// P10.2: the chapter's examples.
func TestTheExamples(t *testing.T) {
	wantAt(t, 5, 100, 105)
	wantAt(t, -1, 100, 100)
	wantAt(t, 3000000, 100, 3000000)
}

// P10.1
func TestSize(t *testing.T) {
	for _, c := range []struct {
		key   string
		value []byte
		want  int
	}{
		{"", nil, 50}, {"", []byte{}, 50}, {"k", nil, 51}, {"", []byte("v"), 51}, {"k", []byte("v"), 52}, {"key", []byte("value"), 58},
		{"\x00", []byte{0, 0}, 53}, {"\u00e9", []byte("\u4e16"), 55}, {"\xff", []byte{0xff}, 52}, {"a b", []byte("\r\n"), 55},
		{"seven--", []byte("seven--"), 64}, {"seven--", []byte("eight---"), 65},
		{strings.Repeat("k", 250), nil, 300}, {strings.Repeat("k", 251), nil, 301}, {"", bytes.Repeat([]byte("v"), 1000), 1050}, {"", bytes.Repeat([]byte("v"), 1001), 1051},
		{strings.Repeat("k", 250), bytes.Repeat([]byte("v"), 1000), 1300}, {strings.Repeat("k", 100000), bytes.Repeat([]byte("v"), 200000), 300050},
	} {
		for _, it := range []api.Item{
			{Key: c.key, Value: c.value},
			{Key: c.key, Value: c.value, Flags: 9, Exp: 8, CAS: 7, Sec: 6, Seq: 5, Stale: true, Won: true, Seen: true},
			{Key: c.key, Value: c.value, Exp: math.MinInt, Sec: math.MaxInt, Seq: math.MaxUint64},
		} {
			if size := Size(it); size != c.want {
				t.Errorf("Size of %d and %d bytes = %d; want %d", len(c.key), len(c.value), size, c.want)
			}
		}
	}
}

// P10.1: it is the bytes that a value has, not those that it has room for.
func TestSizeOfAValueWithRoom(t *testing.T) {
	room := make([]byte, 100)
	for many := range 101 {
		if size := Size(api.Item{Key: "key", Value: room[:many]}); size != 53+many {
			t.Errorf("Size with %d bytes = %d", many, size)
		}
	}
}

// P10.1: each byte of a key and each of a value is one more.
func TestSizeOfEachLength(t *testing.T) {
	key, value := strings.Repeat("\xff", 300), make([]byte, 300)
	for k := range 300 {
		for v := range 300 {
			if size := Size(api.Item{Key: key[:k], Value: value[:v]}); size != 50+k+v {
				t.Fatalf("Size of %d and %d bytes = %d", k, v, size)
			}
		}
	}
}

// P10.2
func TestAt(t *testing.T) {
	for _, c := range []struct{ exp, now, want int }{
		{0, 1, 0}, {0, 2, 0}, {0, 100, 0}, {0, maxNow, 0},
		{-1, 1, 1}, {-1, 2, 2}, {-9, 100, 100}, {-100, 100, 100}, {-101, 100, 100}, {-month, 100, 100}, {-month - 1, 100, 100}, {-maxTime, 100, 100}, {-1, maxNow, maxNow}, {-maxTime, maxNow, maxNow},
		{1, 1, 2}, {1, 100, 101}, {2, 100, 102}, {1, maxNow, maxNow + 1},
		{month - 1, 1, month}, {month, 1, month + 1}, {month + 1, 1, month + 1}, {month + 2, 1, month + 2},
		{month - 1, 100, month + 99}, {month, 100, month + 100}, {month + 1, 100, month + 1},
		{month, month, 2 * month}, {month, maxNow, maxNow + month}, {month + 1, maxNow, month + 1},
		{maxTime, 1, maxTime}, {maxTime, maxNow, maxTime}, {maxTime - 1, 100, maxTime - 1},
	} {
		wantAt(t, c.exp, c.now, c.want)
	}
}

// P10.2: now is taken as 1, if it is below.
func TestAtOfNowBelowOne(t *testing.T) {
	for _, now := range []int{1, 0, -1, -2, -100, -month, -maxNow, math.MinInt + 1, math.MinInt} {
		for _, c := range []struct{ exp, want int }{
			{0, 0}, {-1, 1}, {-100, 1}, {-maxTime, 1}, {1, 2}, {5, 6}, {100, 101}, {month - 1, month}, {month, month + 1}, {month + 1, month + 1}, {maxTime, maxTime},
		} {
			wantAt(t, c.exp, now, c.want)
		}
	}
}

// P10.2: of all that it says something of, what a time means is 0 for 0 alone, and never ahead of the first second.
func TestAtIsZeroForZeroAlone(t *testing.T) {
	for _, exp := range oddNumbers() {
		for _, now := range oddNumbers() {
			if exp > maxTime || now > maxNow {
				continue
			}
			if sec := At(exp, now); (sec == 0) != (exp == 0) || sec < 0 {
				t.Errorf("At(%d, %d) = %d", exp, now, sec)
			}
		}
	}
}

// P10.3
func TestTTL(t *testing.T) {
	for _, c := range []struct{ exp, now, want int }{
		{0, 1, -1}, {0, 100, -1}, {0, 0, -1}, {0, -1, -1}, {0, math.MaxInt, -1}, {0, math.MinInt, -1},
		{1, 100, 0}, {99, 100, 0}, {100, 100, 0}, {101, 100, 1}, {102, 100, 2}, {200, 100, 100},
		{1, 1, 0}, {2, 1, 1}, {1, 0, 1}, {1, -1, 2}, {5, -5, 10}, {1, 2, 0},
		{month, 1, month - 1}, {month + 1, 1, month}, {month + 2, 1, month + 1}, {maxNow + month, maxNow, month}, {maxTime, maxNow, 0}, {maxNow, maxNow, 0}, {maxNow + 1, maxNow, 1},
		{-1, 100, 0}, {-1, 1, 0}, {-1, -1, 0}, {-1, 0, 0}, {-1, -2, 1}, {-2, -1, 0}, {math.MinInt, math.MinInt, 0}, {math.MinInt, math.MaxInt, 0}, {math.MaxInt, math.MaxInt, 0}, {math.MaxInt, math.MaxInt - 1, 1},
		{math.MaxInt, 0, math.MaxInt},
	} {
		wantTTL(t, c.exp, c.now, c.want)
	}
}

// P10.2, P10.3: what is left right behind a request is what it asked for.
func TestTTLOfAt(t *testing.T) {
	for _, now := range []int{1, 2, 100, month, maxTime, maxNow} {
		for _, c := range []struct{ exp, want int }{{0, -1}, {-1, 0}, {-maxTime, 0}, {1, 1}, {30, 30}, {month, month}} {
			wantTTL(t, At(c.exp, now), now, c.want)
		}
	}
	wantTTL(t, At(month+1, 100), 100, month-99)
	wantTTL(t, At(month+1, month), month, 1)
	wantTTL(t, At(month+1, month+1), month+1, 0)
}

// P10.4: the end of an item that nothing has flushed.
func TestLiveByItsEnd(t *testing.T) {
	for _, c := range []struct {
		exp, now int
		want     bool
	}{
		{0, 1, true}, {0, 100, true}, {0, 0, true}, {0, -1, true}, {0, math.MaxInt, true}, {0, math.MinInt, true},
		{100, 98, true}, {100, 99, true}, {100, 100, false}, {100, 101, false}, {100, math.MaxInt, false},
		{1, 0, true}, {1, 1, false}, {1, 2, false}, {2, 1, true}, {1, math.MinInt, true},
		{-1, 1, false}, {-1, 0, false}, {-1, -1, false}, {-1, -2, true}, {math.MinInt, math.MinInt, false}, {math.MinInt, 1, false},
		{math.MaxInt, math.MaxInt - 1, true}, {math.MaxInt, math.MaxInt, false}, {maxNow + month, maxNow, true}, {maxNow + month, maxNow + month, false},
	} {
		for _, sec := range []int{0, 1, c.now, c.exp} {
			for _, seq := range oddSeqs() {
				wantLive(t, api.Item{Exp: c.exp, Sec: sec, Seq: seq}, api.Env{Now: c.now}, c.want)
				wantLive(t, api.Item{Exp: c.exp, Sec: sec, Seq: seq}, api.Env{Now: c.now, FlushSeq: math.MaxUint64}, c.want)
			}
		}
	}
}

// P10.4: an item without end, and a flush: the flush's second beside Now, the item's beside that one, and the numbers of both.
func TestLiveByAFlush(t *testing.T) {
	for _, c := range []struct {
		flush, now int
		has        bool // the flush has come
	}{
		{10, 8, false}, {10, 9, false}, {10, 10, true}, {10, 11, true}, {10, 1000, true}, {10, math.MaxInt, true}, {10, math.MinInt, false},
		{1, 0, false}, {1, 1, true}, {1, 2, true}, {-5, -6, false}, {-5, -5, true}, {-5, 0, true}, {-5, 5, true}, {math.MaxInt - 1, math.MaxInt - 2, false}, {math.MaxInt - 1, math.MaxInt, true},
	} {
		for _, i := range []struct {
			ahead    int // of the flush's second
			seq, of  uint64
			isBefore bool
		}{
			{1, 0, 0, true}, {1, 7, 7, true}, {1, 6, 7, true}, {1, 8, 7, true}, {1, math.MaxUint64, 0, true}, {9, 8, 7, true},
			{0, 0, 0, false}, {0, 0, 1, true}, {0, 6, 7, true}, {0, 7, 7, false}, {0, 8, 7, false}, {0, math.MaxUint64, 0, false}, {0, 0, math.MaxUint64, true},
			{0, math.MaxUint64 - 1, math.MaxUint64, true}, {0, math.MaxUint64, math.MaxUint64, false}, {0, 1<<63 - 1, 1 << 63, true}, {0, 1 << 63, 1<<63 - 1, false},
			{-1, 0, 0, false}, {-1, 6, 7, false}, {-1, 7, 7, false}, {-1, 8, 7, false}, {-1, 0, math.MaxUint64, false},
		} {
			it, env := api.Item{Sec: c.flush - i.ahead, Seq: i.seq}, api.Env{Now: c.now, Flush: c.flush, FlushSeq: i.of}
			wantLive(t, it, env, !(c.has && i.isBefore))
		}
	}
}

// P10.4: a Flush of 0 is none, whatever the second of an item, and of the env, is.
func TestLiveWithoutAFlush(t *testing.T) {
	for _, now := range oddNumbers() {
		for _, sec := range oddNumbers() {
			wantLive(t, api.Item{Sec: sec, Seq: 3}, api.Env{Now: now, FlushSeq: 4}, true)
			wantLive(t, api.Item{Sec: sec, Seq: 4}, api.Env{Now: now}, true)
		}
	}
}

// P10.4: an item that has an end, and a flush: each of them is enough.
func TestLiveByBoth(t *testing.T) {
	for _, c := range []struct {
		exp, sec int
		seq      uint64
		env      api.Env
		want     bool
	}{
		{11, 5, 3, api.Env{Now: 10, Flush: 6, FlushSeq: 4}, false},
		{11, 6, 3, api.Env{Now: 10, Flush: 6, FlushSeq: 4}, false},
		{11, 6, 4, api.Env{Now: 10, Flush: 6, FlushSeq: 4}, true},
		{10, 6, 4, api.Env{Now: 10, Flush: 6, FlushSeq: 4}, false},
		{11, 7, 0, api.Env{Now: 10, Flush: 6, FlushSeq: 4}, true},
		{10, 7, 0, api.Env{Now: 10, Flush: 6, FlushSeq: 4}, false},
		{11, 5, 3, api.Env{Now: 10, Flush: 11, FlushSeq: 4}, true},
		{10, 5, 3, api.Env{Now: 10, Flush: 11, FlushSeq: 4}, false},
		{11, 5, 3, api.Env{Now: 10}, true},
		{10, 5, 3, api.Env{Now: 10}, false},
		{6, 5, 3, api.Env{Now: 5, Flush: 6}, true},
		{6, 5, 3, api.Env{Now: 6, Flush: 6}, false},
	} {
		wantLive(t, api.Item{Exp: c.exp, Sec: c.sec, Seq: c.seq}, c.env, c.want)
	}
}

// plainLive is what Live is held against: the promise's words, one behind the other.
func plainLive(it api.Item, env api.Env) bool {
	if it.Exp != 0 {
		if it.Exp <= env.Now {
			return false
		}
	}
	if env.Flush == 0 || env.Flush > env.Now {
		return true
	}
	if it.Sec == env.Flush {
		return it.Seq >= env.FlushSeq
	}
	return it.Sec > env.Flush
}

// P10.4: each way in which an end, three seconds and two numbers of commands may stand to each other.
func TestLiveOfSmallNumbers(t *testing.T) {
	const most = 5
	for code := range most * most * most * most {
		exp, sec, now, flush := code%most-1, code/most%most-1, code/most/most%most-1, code/most/most/most-1
		for seq := range uint64(3) {
			for of := range uint64(3) {
				it, env := api.Item{Exp: exp, Sec: sec, Seq: seq}, api.Env{Now: now, Flush: flush, FlushSeq: of}
				wantLive(t, it, env, plainLive(it, env))
			}
		}
	}
}

// P10.4, R1: likewise of odd ones.
func TestLiveOfOddNumbers(t *testing.T) {
	for _, exp := range []int{math.MinInt, -1, 0, 1, month, math.MaxInt} {
		for _, sec := range oddNumbers() {
			for _, now := range oddNumbers() {
				for _, flush := range oddNumbers() {
					for _, seq := range []uint64{0, 1, math.MaxUint64} {
						it, env := api.Item{Exp: exp, Sec: sec, Seq: seq}, api.Env{Now: now, Flush: flush, FlushSeq: 1}
						if Live(it, env) != plainLive(it, env) {
							t.Fatalf("Live(%+v, %+v) = %t", it, env, Live(it, env))
						}
					}
				}
			}
		}
	}
}

// P10.3, P10.4: what has no seconds left does not live; of what no flush has to do with, all else does.
func TestLiveAndTTL(t *testing.T) {
	for _, exp := range oddNumbers() {
		for _, now := range oddNumbers() {
			it := api.Item{Exp: exp}
			if live, left := Live(it, api.Env{Now: now}), TTL(it, now); live == (left == 0) {
				t.Errorf("Exp %d at %d: Live %t, TTL %d", exp, now, live, left)
			}
		}
	}
}

// P10.5: at once.
func TestFlushAtOnce(t *testing.T) {
	for _, exp := range []int{0, -1, -2, -100, -month, -maxTime, math.MinInt + 1, math.MinInt} {
		for _, c := range []struct{ now, want int }{
			{1, 1}, {2, 2}, {100, 100}, {month, month}, {maxNow, maxNow}, {math.MaxInt, math.MaxInt}, {0, 1}, {-1, 1}, {-100, 1}, {math.MinInt, 1},
		} {
			for _, seq := range oddSeqs() {
				wantFlush(t, exp, api.Env{Now: c.now, Seq: seq}, api.Env{Now: c.now, Seq: seq, Flush: c.want, FlushSeq: seq})
				wantFlush(t, exp, api.Env{Now: c.now, Seq: seq, Flush: 77, FlushSeq: 78}, api.Env{Now: c.now, Seq: seq, Flush: c.want, FlushSeq: seq})
			}
		}
	}
}

// P10.5: later, or at a second that is told.
func TestFlushLater(t *testing.T) {
	for _, c := range []struct{ exp, now, want int }{
		{1, 1, 2}, {3, 5, 8}, {1, 100, 101}, {month, 100, month + 100}, {month + 1, 100, month + 1}, {month + 1, maxNow, month + 1}, {maxTime, 100, maxTime}, {month, maxNow, maxNow + month},
		{1, 0, 2}, {1, -1, 2}, {3, -100, 4}, {month, 0, month + 1}, {month + 1, 0, month + 1}, {1, math.MinInt, 2},
	} {
		for _, seq := range oddSeqs() {
			wantFlush(t, c.exp, api.Env{Now: c.now, Seq: seq}, api.Env{Now: c.now, Seq: seq, Flush: c.want})
			wantFlush(t, c.exp, api.Env{Now: c.now, Seq: seq, Flush: 77, FlushSeq: 78}, api.Env{Now: c.now, Seq: seq, Flush: c.want})
		}
	}
}

// P10.5: all else of the env stays, and what was flushed before plays no part.
func TestFlushLeavesTheRest(t *testing.T) {
	for _, exp := range oddNumbers() {
		for _, now := range oddNumbers() {
			for _, seq := range oddSeqs() {
				want := Flush(exp, api.Env{Now: now, Seq: seq})
				if want.Now != now || want.Seq != seq {
					t.Errorf("Flush(%d, Now %d, Seq %d) = %+v", exp, now, seq, want)
				}
				for _, flush := range []int{math.MinInt, -1, 0, 1, now, math.MaxInt} {
					wantFlush(t, exp, api.Env{Now: now, Seq: seq, Flush: flush, FlushSeq: seq + 1}, want)
				}
				wantFlush(t, exp, want, want)
			}
		}
	}
}

// P10.6: an item that is not Live is not Live at any later second.
func TestNotLiveStaysSo(t *testing.T) {
	for exp := range 8 {
		for sec := range 7 {
			for flush := range 8 {
				for seq := range uint64(3) {
					it, wasLive := api.Item{Exp: exp, Sec: sec, Seq: seq}, true
					for now := 1; now < 12; now++ {
						live := Live(it, api.Env{Now: now, Flush: flush, FlushSeq: 1})
						if live && !wasLive {
							t.Errorf("%+v, flushed in %d, lives again in %d", it, flush, now)
						}
						wasLive = live
					}
				}
			}
		}
	}
}

// P10.6: seconds and years later likewise, of a written-out item that has an end, and of one that was flushed.
func TestNotLiveMuchLater(t *testing.T) {
	for _, now := range []int{10, 11, 12, 100, month, month + 10, month + 11, maxTime, maxNow, math.MaxInt} {
		wantLive(t, api.Item{Exp: 10, Sec: 9, Seq: 1}, api.Env{Now: now}, false)
		wantLive(t, api.Item{Sec: 10, Seq: 1}, api.Env{Now: now, Flush: 10, FlushSeq: 2}, false)
		wantLive(t, api.Item{Sec: 9, Seq: 1}, api.Env{Now: now, Flush: 10}, false)
		wantLive(t, api.Item{Sec: 10, Seq: 2}, api.Env{Now: now, Flush: 10, FlushSeq: 2}, true)
	}
}

// P10.6: a row of commands, some in one second, of which one flushes at once: what each of the others has stored. The clock goes on ahead of a command, or not, as the bits of a code say.
func TestBehindAFlush(t *testing.T) {
	const many = 7
	for _, start := range []int{1, 2, maxTime} {
		for code := range 1 << many {
			for at := range many {
				stored := row(start, code, many)
				env := Flush(0, api.Env{Now: stored[at].Sec, Seq: stored[at].Seq})
				for _, now := range []int{stored[many-1].Sec, stored[many-1].Sec + 1, maxNow} {
					env.Now, env.Seq = now, many
					for seq, it := range stored {
						if Live(it, env) != (seq >= at) {
							t.Fatalf("flushed by command %d, in %+v: %+v lives: %t", at, env, it, seq < at)
						}
					}
				}
			}
		}
	}
}

// row is what each of some commands stores.
func row(now, code, many int) []api.Item {
	var l []api.Item
	for seq := range many {
		now += code >> seq & 1
		l = append(l, api.Item{Sec: now, Seq: uint64(seq)})
	}
	return l
}

// P10.5, P10.6: a flush that comes later takes what was stored ahead of its second, and nothing ahead of that.
func TestBehindALaterFlush(t *testing.T) {
	env := Flush(3, api.Env{Now: 5, Seq: 8})
	for sec := 1; sec < 12; sec++ {
		for now := sec; now < 15; now++ {
			env.Now = now
			for _, seq := range []uint64{0, 7, 8, 9} {
				wantLive(t, api.Item{Sec: sec, Seq: seq}, env, now < 8 || sec >= 8)
			}
		}
	}
}

// P10.2, P10.5, R1: numbers of which nothing is said are answered all the same.
func TestOddNumbers(t *testing.T) {
	for _, exp := range oddNumbers() {
		for _, now := range oddNumbers() {
			At(exp, now)
			TTL(api.Item{Exp: exp}, now)
			Flush(exp, api.Env{Now: now, Seq: math.MaxUint64, Flush: exp, FlushSeq: math.MaxUint64})
		}
	}
}

// R3, R5: an item stays as it was, and is answered for alike each time.
func TestItemsStay(t *testing.T) {
	it, env := odd(api.Item{Exp: 10, Sec: 5, Seq: 7}), api.Env{Now: 9, Seq: 9, Flush: 6, FlushSeq: 2}
	was := it
	was.Value = bytes.Clone(it.Value)
	for range 3 {
		if Size(it) != 58 || TTL(it, 9) != 1 || Live(it, env) || Flush(0, env) != (api.Env{Now: 9, Seq: 9, Flush: 9, FlushSeq: 9}) {
			t.Errorf("%d, %d, %t, %+v", Size(it), TTL(it, 9), Live(it, env), Flush(0, env))
		}
		if !reflect.DeepEqual(it, was) || env != (api.Env{Now: 9, Seq: 9, Flush: 6, FlushSeq: 2}) {
			t.Errorf("%+v, %+v", it, env)
		}
	}
}
