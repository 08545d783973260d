package frame

import (
	"bytes"
	"fmt"
	"math"
	"slices"
	"strings"
	"testing"

	"buttery/api"
)

func wantLine(t *testing.T, b, line string, used int, e api.Errno) {
	t.Helper()
	if s, n, got := Line([]byte(b)); s != line || n != used || got != e {
		t.Errorf("Line(%.40q of %d) = %.40q of %d, %d, %d; want %.40q of %d, %d, %d", b, len(b), s, len(s), n, got, line, len(line), used, e)
	}
}

func wantBody(t *testing.T, b string, n int, body string, used int, e api.Errno) {
	t.Helper()
	if v, m, got := Body([]byte(b), n); string(v) != body || m != used || got != e {
		t.Errorf("Body(%.40q of %d; %d) = %.40q of %d, %d, %d; want %.40q of %d, %d, %d", b, len(b), n, v, len(v), m, got, body, len(body), used, e)
	}
}

func wantPass(t *testing.T, b string, skip int, line bool, passed, left int, still bool) {
	t.Helper()
	if n, k, l := Pass([]byte(b), skip, line); n != passed || k != left || l != still {
		t.Errorf("Pass(%.40q of %d; %d, %v) = %d, %d, %v; want %d, %d, %v", b, len(b), skip, line, n, k, l, passed, left, still)
	}
}

// texts are all of up to so many of these signs.
func texts(signs string, most int) []string {
	all := []string{""}
	last := all
	for range most {
		var longer []string
		for _, s := range last {
			for i := range len(signs) {
				longer = append(longer, s+signs[i:i+1])
			}
		}
		all, last = append(all, longer...), longer
	}
	return all
}

// filler is so many bytes, all of them different from those beside them, none a carriage return or a line feed.
func filler(size int) string {
	b := make([]byte, size)
	for i := range b {
		b[i] = byte('a' + i%26)
	}
	return string(b)
}

// plainLine, plainBody and plainPass are the words of the promises, byte by byte.
func plainLine(b string) (string, int, api.Errno) {
	line := ""
	for i := range len(b) {
		if b[i] != 10 {
			line += b[i : i+1]
			continue
		}
		if i > 0 && b[i-1] == 13 {
			line = line[:i-1]
		}
		if len(line) > 2048 {
			return "", i + 1, api.ErrLong
		}
		return line, i + 1, api.OK
	}
	if len(b) > 2049 {
		return "", len(b), api.ErrLong
	}
	return "", 0, api.ErrMore
}

func plainBody(b string, n int) (string, int, api.Errno) {
	switch {
	case n < 0, n > 1000:
		return "", 0, api.ErrForm
	case len(b) < n+2:
		return "", 0, api.ErrMore
	case b[n] != 13, b[n+1] != 10:
		return "", n, api.ErrForm
	}
	return b[:n], n + 2, api.OK
}

func plainPass(b string, skip int, line bool) (int, int, bool) {
	passed := 0
	skip = max(skip, 0)
	for passed < len(b) && (skip > 0 || line) {
		if skip > 0 {
			skip--
		} else if b[passed] == 10 {
			line = false
		}
		passed++
	}
	return passed, skip, line
}

// P13.1
func TestLineEndsAtTheFirstLineFeed(t *testing.T) {
	wantLine(t, "ab\r\nc", "ab", 4, api.OK)
	wantLine(t, "ab\nc", "ab", 3, api.OK)
	wantLine(t, "ab\r\n", "ab", 4, api.OK)
	wantLine(t, "ab\n", "ab", 3, api.OK)
	wantLine(t, "ab\ncd\r\n", "ab", 3, api.OK)
	wantLine(t, "ab\r\ncd\n", "ab", 4, api.OK)
	wantLine(t, "\n", "", 1, api.OK)
	wantLine(t, "\nab", "", 1, api.OK)
	wantLine(t, "\n\n", "", 1, api.OK)
	wantLine(t, "\n\r\n", "", 1, api.OK)
	wantLine(t, "\r\n", "", 2, api.OK)
	wantLine(t, "\r\nab\r\n", "", 2, api.OK)
	wantLine(t, " get  a \r\n", " get  a ", 10, api.OK)
	wantLine(t, "\x00\xff\xc3\xa9\x80\t\x7f\r\n", "\x00\xff\xc3\xa9\x80\t\x7f", 9, api.OK)
}

// P13.1
func TestLineLosesOneCarriageReturnAtItsEnd(t *testing.T) {
	wantLine(t, "ab\r\r\n", "ab\r", 5, api.OK)
	wantLine(t, "ab\r\r\r\n", "ab\r\r", 6, api.OK)
	wantLine(t, "\r\r\n", "\r", 3, api.OK)
	wantLine(t, "a\rb\n", "a\rb", 4, api.OK)
	wantLine(t, "a\rb\r\n", "a\rb", 5, api.OK)
	wantLine(t, "\rab\n", "\rab", 4, api.OK)
	wantLine(t, "\rab\r\n", "\rab", 5, api.OK)
	wantLine(t, "ab\n\r", "ab", 3, api.OK)
}

// P13.1
func TestLineWithoutALineFeed(t *testing.T) {
	for _, b := range []string{"", "a", "ab", "\r", "ab\r", "\r\r\r", "get a", "\x00", "\xff\xfe", "\x0b\x0c\x85\xe2\x80\xa8"} {
		wantLine(t, b, "", 0, api.ErrMore)
	}
	if s, n, e := Line(nil); s != "" || n != 0 || e != api.ErrMore {
		t.Errorf("Line(nil) = %q, %d, %d; want nothing, 0, ErrMore", s, n, e)
	}
	for _, size := range []int{1000, 2046, 2047, 2048, 2049} {
		wantLine(t, filler(size), "", 0, api.ErrMore)
		wantLine(t, filler(size-1)+"\r", "", 0, api.ErrMore)
		wantLine(t, strings.Repeat("\r", size), "", 0, api.ErrMore)
	}
	for _, size := range []int{2050, 2051, 4096, 16384, 100000} {
		wantLine(t, filler(size), "", size, api.ErrLong)
		wantLine(t, filler(size-1)+"\r", "", size, api.ErrLong)
		wantLine(t, strings.Repeat("\r", size), "", size, api.ErrLong)
	}
}

// P13.1
func TestLineOfManyBytes(t *testing.T) {
	for _, more := range []string{"", "\n", "\r\n", "get a\r\n", filler(3000)} {
		for _, size := range []int{2, 1000, 2046, 2047, 2048} {
			line := filler(size)
			wantLine(t, line+"\n"+more, line, size+1, api.OK)
			wantLine(t, line+"\r\n"+more, line, size+2, api.OK)
			line = line[1:] + "\r" // the first of two carriage returns is the line's
			wantLine(t, line+"\r\n"+more, line, size+2, api.OK)
		}
		for _, size := range []int{2049, 2050, 2051, 4096, 100000} {
			wantLine(t, filler(size)+"\n"+more, "", size+1, api.ErrLong)
			wantLine(t, filler(size)+"\r\n"+more, "", size+2, api.ErrLong)
			wantLine(t, filler(size-1)+"\r\r\n"+more, "", size+2, api.ErrLong)
		}
		wantLine(t, strings.Repeat("\r", 2049)+"\n"+more, strings.Repeat("\r", 2048), 2050, api.OK)
		wantLine(t, strings.Repeat("\r", 2050)+"\n"+more, "", 2051, api.ErrLong)
	}
}

// P13.1
func TestLineOfAllShortTexts(t *testing.T) {
	for _, b := range texts("a\r\n \x00", 6) {
		line, used, e := plainLine(b)
		wantLine(t, b, line, used, e)
	}
}

// P13.1
func TestLineOfAllBytes(t *testing.T) {
	for c := range 256 {
		if c == 10 {
			continue
		}
		s := string([]byte{byte(c)})
		line, used, e := plainLine(s + "\n")
		wantLine(t, s+"\n", line, used, e)
		wantLine(t, "a"+s+"b\r\n", "a"+s+"b", 5, api.OK)
		wantLine(t, s+s, "", 0, api.ErrMore)
	}
}

// P13.2
func TestBodyIsTheBytes(t *testing.T) {
	wantBody(t, "xy\r\n", 2, "xy", 4, api.OK)
	wantBody(t, "xy\r\nz", 2, "xy", 4, api.OK)
	wantBody(t, "\r\n", 0, "", 2, api.OK)
	wantBody(t, "\r\nabc", 0, "", 2, api.OK)
	wantBody(t, "a\r\n", 1, "a", 3, api.OK)
	wantBody(t, "\r\n\r\n", 2, "\r\n", 4, api.OK)
	wantBody(t, "a\r\nb\r\n\r\n", 4, "a\r\nb", 6, api.OK)
	wantBody(t, "\n\r\n", 1, "\n", 3, api.OK)
	wantBody(t, "\r\r\n", 1, "\r", 3, api.OK)
	wantBody(t, "\x00\xff\x80 \t\r\n", 5, "\x00\xff\x80 \t", 7, api.OK)
	for _, size := range []int{0, 1, 2, 250, 998, 999, 1000} {
		for _, more := range []string{"", "\r", "\r\n", "get a\r\n", filler(3000)} {
			wantBody(t, filler(size)+"\r\n"+more, size, filler(size), size+2, api.OK)
		}
	}
}

// P13.2
func TestBodyOfSoManyBytesThatMayNotBe(t *testing.T) {
	for _, n := range []int{math.MinInt, math.MinInt32, -1001, -1000, -3, -2, -1, 1001, 1002, 1003, 2048, 1 << 31, 1 << 32, 1<<32 + 2, math.MaxInt - 2, math.MaxInt - 1, math.MaxInt} {
		for _, b := range []string{"", "\r\n", "xy\r\n", filler(1000) + "\r\n", filler(1001), filler(1001) + "\r\n", filler(1002) + "\r\n", filler(5000)} {
			wantBody(t, b, n, "", 0, api.ErrForm)
		}
		if v, m, e := Body(nil, n); len(v) != 0 || m != 0 || e != api.ErrForm {
			t.Errorf("Body(nil, %d) = %q, %d, %d; want nothing, 0, ErrForm", n, v, m, e)
		}
	}
}

// P13.2
func TestBodyOfTooFewBytes(t *testing.T) {
	for _, n := range []int{0, 1, 2, 3, 250, 999, 1000} {
		whole := filler(n) + "\r\n"
		for _, size := range []int{0, 1, n / 2, n - 1, n, n + 1} {
			if size >= 0 && size < n+2 {
				wantBody(t, whole[:size], n, "", 0, api.ErrMore)
				wantBody(t, filler(size), n, "", 0, api.ErrMore) // a wrong end is told when all of it is there
			}
		}
		wantBody(t, whole, n, filler(n), n+2, api.OK)
		wantBody(t, whole+"a", n, filler(n), n+2, api.OK)
		if v, m, e := Body(nil, n); len(v) != 0 || m != 0 || e != api.ErrMore {
			t.Errorf("Body(nil, %d) = %q, %d, %d; want nothing, 0, ErrMore", n, v, m, e)
		}
	}
}

// P13.2
func TestBodyWithoutItsEnd(t *testing.T) {
	wantBody(t, "abx\r\n", 2, "", 2, api.ErrForm)
	for _, n := range []int{0, 1, 2, 999, 1000} {
		for _, end := range []string{"\n\r", "\n\n", "\r\r", "a\n", "\ra", "aa", "\r\x00", "\x00\n", "\r ", " \n", "a\r\n", "\n\r\n", "\r\r\n"} {
			wantBody(t, filler(n)+end, n, "", n, api.ErrForm)
			wantBody(t, filler(n)+end+"\r\n", n, "", n, api.ErrForm)
		}
		for c := range 256 {
			s := string([]byte{byte(c)})
			if c != 13 {
				wantBody(t, filler(n)+s+"\n", n, "", n, api.ErrForm)
			}
			if c != 10 {
				wantBody(t, filler(n)+"\r"+s, n, "", n, api.ErrForm)
			}
		}
	}
	for n := range 10 { // an end that comes too early, or too late
		b := "abc\r\ndefgh\r\n"
		body, used, e := plainBody(b, n)
		wantBody(t, b, n, body, used, e)
	}
}

// P13.2
func TestBodyOfAllShortTexts(t *testing.T) {
	for _, b := range texts("a\r\n", 7) {
		for n := -2; n < 9; n++ {
			body, used, e := plainBody(b, n)
			wantBody(t, b, n, body, used, e)
		}
	}
}

// P13.3
func TestPassByNumber(t *testing.T) {
	for _, c := range []struct {
		b                  string
		skip, passed, left int
	}{
		{"", 0, 0, 0}, {"", 1, 0, 1}, {"", 5, 0, 5}, {"", -1, 0, 0},
		{"abc", 0, 0, 0}, {"abc", 1, 1, 0}, {"abc", 2, 2, 0}, {"abc", 3, 3, 0}, {"abc", 4, 3, 1}, {"abc", 5, 3, 2}, {"abc", 1000, 3, 997},
		{"abc", -1, 0, 0}, {"abc", -3, 0, 0}, {"abc", math.MinInt, 0, 0}, {"abc", math.MaxInt, 3, math.MaxInt - 3}, {"", math.MaxInt, 0, math.MaxInt},
		{"a\nb\n", 1, 1, 0}, {"a\nb\n", 2, 2, 0}, {"a\nb\n", 3, 3, 0}, {"a\nb\n", 6, 4, 2}, {"\n", 0, 0, 0}, {"\n\n", 1, 1, 0},
		{filler(20000), 1002, 1002, 0}, {filler(20000), 1<<30 + 2, 20000, 1<<30 + 2 - 20000},
	} {
		wantPass(t, c.b, c.skip, false, c.passed, c.left, false)
	}
}

// P13.3
func TestPassUpToALineFeed(t *testing.T) {
	for _, c := range []struct {
		b                  string
		skip, passed, left int
		still              bool
	}{
		{"ab\nc", 1, 3, 0, false}, {"abc\nd", 1, 4, 0, false},
		{"", 0, 0, 0, true}, {"", 1, 0, 1, true}, {"", -1, 0, 0, true}, {"", 7, 0, 7, true},
		{"abc", 0, 3, 0, true}, {"abc", 1, 3, 0, true}, {"abc", 2, 3, 0, true}, {"abc", 3, 3, 0, true}, {"abc", 4, 3, 1, true}, {"abc", 5, 3, 2, true},
		{"abc", -1, 3, 0, true}, {"abc", math.MinInt, 3, 0, true}, {"abc", math.MaxInt, 3, math.MaxInt - 3, true},
		{"\n", 0, 1, 0, false}, {"\n", 1, 1, 0, true}, {"\n", 2, 1, 1, true}, {"\n", -1, 1, 0, false}, {"\n", math.MinInt, 1, 0, false},
		{"\nabc", 0, 1, 0, false}, {"ab\n", 0, 3, 0, false}, {"ab\r\ncd\r\n", 0, 4, 0, false}, {"ab\r\ncd\r\n", -5, 4, 0, false},
		// Among what is passed over by number, one is none of those that are looked for.
		{"a\nbc", 2, 4, 0, true}, {"a\nbc\nd", 2, 5, 0, false}, {"a\nbc\nd", 3, 5, 0, false}, {"a\n\nd", 2, 3, 0, false}, {"a\nbc", 5, 4, 1, true}, {"a\nbc", 4, 4, 0, true},
		// Right behind it.
		{"ab\nc", 2, 3, 0, false}, {"ab\n", 2, 3, 0, false}, {"ab\n", 3, 3, 0, true}, {"xy\r\nget a\r\n", 2, 4, 0, false},
		{"ab\r", 0, 3, 0, true}, {"ab\x00\x0b\x8a", 0, 5, 0, true},
		{filler(20000), 1002, 20000, 0, true}, {filler(20000) + "\nab\n", 1002, 20001, 0, false},
	} {
		wantPass(t, c.b, c.skip, true, c.passed, c.left, c.still)
	}
}

// P13.3
func TestPassOfAllShortTexts(t *testing.T) {
	for _, b := range texts("a\r\n", 6) {
		for skip := -2; skip < 9; skip++ {
			for _, line := range []bool{false, true} {
				passed, left, still := plainPass(b, skip, line)
				wantPass(t, b, skip, line, passed, left, still)
			}
		}
	}
}

// P13.3
func TestPassOfNil(t *testing.T) {
	for _, skip := range []int{math.MinInt, -1, 0, 1, math.MaxInt} {
		for _, line := range []bool{false, true} {
			if n, k, l := Pass(nil, skip, line); n != 0 || k != max(skip, 0) || l != line {
				t.Errorf("Pass(nil, %d, %v) = %d, %d, %v", skip, line, n, k, l)
			}
		}
	}
}

// P13.4
func TestKeysOfSomeLengths(t *testing.T) {
	for size, want := range map[int]bool{0: false, 1: true, 2: true, 249: true, 250: true, 251: false, 252: false, 256: false, 257: false, 500: false, 506: false, 65537: false, 100000: false} {
		s := filler(size)
		if Key(s) != want || Keyed(s) != want {
			t.Errorf("of %d bytes Key = %v, Keyed = %v; want %v", size, Key(s), Keyed(s), want)
		}
		if s := strings.Repeat(" ", size); Key(s) || Keyed(s) != want {
			t.Errorf("of %d blanks Key = %v, Keyed = %v; want false, %v", size, Key(s), Keyed(s), want)
		}
	}
	for size, want := range map[int]bool{125: true, 126: false} { // bytes are counted, not runes
		s := strings.Repeat("\u00e9", size)
		if Key(s) != want || Keyed(s) != want {
			t.Errorf("of %d runes of two bytes Key = %v, Keyed = %v; want %v", size, Key(s), Keyed(s), want)
		}
	}
}

// P13.4
func TestKeysOfAllBytes(t *testing.T) {
	told := map[byte]bool{0: false, 10: false, 13: false, 32: false, 33: true, 126: true, 127: false, 128: true, 255: true}
	for c := range 256 {
		want, is := told[byte(c)]
		if !is {
			want = c > 32 && c != 127
		}
		s := string([]byte{byte(c)})
		for _, key := range []string{s, s + "ab", "a" + s + "b", "ab" + s, s + s, filler(249) + s, s + filler(249), filler(100) + s + filler(149)} {
			if Key(key) != want {
				t.Errorf("Key(%.40q) of %d bytes = %v; want %v", key, len(key), !want, want)
			}
			if !Keyed(key) {
				t.Errorf("Keyed(%.40q) of %d bytes = false; want true", key, len(key))
			}
		}
		if key := s + filler(250); Key(key) || Keyed(key) {
			t.Errorf("%q and 250 bytes: Key = %v, Keyed = %v; want neither", s, Key(key), Keyed(key))
		}
	}
}

// P13.4
func TestKeysOfSomeTexts(t *testing.T) {
	for _, s := range []string{"a", "k", "\u00e9!", "a/b:c", "!~", "\xff\x80", "\xc3", "\u20ac", "\U0001f600", "\u0085", "\u00a0", "\ufffd", "0"} {
		if !Key(s) || !Keyed(s) {
			t.Errorf("Key(%q) = %v, Keyed = %v; want both", s, Key(s), Keyed(s))
		}
	}
	for _, s := range []string{" ", "a b", " a", "a ", "a\tb", "a\x00", "a\r", "a\n", "\x7f", "a\x7fb", "\u00e9 ", "\xff\x00", "\x1f"} {
		if Key(s) || !Keyed(s) {
			t.Errorf("Key(%q) = %v, Keyed = %v; want Keyed alone", s, Key(s), Keyed(s))
		}
	}
}

// passPieces is Pass of pieces one behind the other: how many are passed over of each, and what is still to come.
func passPieces(pieces []string, skip int, line bool) ([]int, int, bool) {
	var passed []int
	for _, p := range pieces {
		var n int
		n, skip, line = Pass([]byte(p), skip, line)
		passed = append(passed, n)
	}
	return passed, skip, line
}

// overlap is how many of the first so many bytes each piece has.
func overlap(pieces []string, first int) []int {
	var of []int
	for _, p := range pieces {
		n := min(first, len(p))
		of, first = append(of, n), first-n
	}
	return of
}

func wantSamePassed(t *testing.T, b string, pieces []string, skip int, line bool) {
	t.Helper()
	n, left, still := Pass([]byte(b), skip, line)
	passed, gotLeft, gotStill := passPieces(pieces, skip, line)
	if !slices.Equal(passed, overlap(pieces, n)) || gotLeft != left || gotStill != still {
		t.Errorf("Pass(%q; %d, %v) = %d, %d, %v; of %q one by one: %v, %d, %v", b, skip, line, n, left, still, pieces, passed, gotLeft, gotStill)
	}
}

// P13.5
func TestPassOfPiecesPassesTheSameBytes(t *testing.T) {
	for _, b := range []string{"", "a", "\n", "abc", "ab\ncd\nef", "\n\n\n", "a\r\nb\r\n", "xy\r\nget a\r\n", "a\n", "\nabcdef"} {
		for skip := -1; skip < len(b)+3; skip++ {
			for _, line := range []bool{false, true} {
				for i := range len(b) + 1 {
					wantSamePassed(t, b, []string{b[:i], b[i:]}, skip, line)
					for j := i; j <= len(b); j++ {
						wantSamePassed(t, b, []string{b[:i], b[i:j], b[j:]}, skip, line)
					}
				}
				wantSamePassed(t, b, append(strings.Split(b, ""), ""), skip, line) // one piece at least, though it be empty
			}
		}
	}
}

// P13.5
func TestPassOfManyBytesInPieces(t *testing.T) {
	b := filler(700) + "\n" + filler(800) + "\n" + filler(300)
	for _, skip := range []int{-1, 0, 1, 699, 700, 701, 702, 1500, 1501, 1502, 1802, 1803, 5000} {
		for _, line := range []bool{false, true} {
			for i := range len(b) + 1 {
				wantSamePassed(t, b, []string{b[:i], b[i:]}, skip, line)
			}
			for _, size := range []int{1, 2, 7, 100, 701} {
				var pieces []string
				for p := range slices.Chunk([]byte(b), size) {
					pieces = append(pieces, string(p))
				}
				wantSamePassed(t, b, pieces, skip, line)
			}
		}
	}
}

// P13.5
func TestMoreBytesChangeNothingOfALineOrABody(t *testing.T) {
	more := []string{"\n", "\r", "\r\n", "a", "a\n", "\n\n\n", "\r\na\r\n", "\x00", filler(2049), filler(20000), filler(3000) + "\r\n"}
	lines := append(texts("a\r\n", 5), filler(2048)+"\n", filler(2048)+"\r\n", filler(2049)+"\n", filler(2049)+"\r\n", filler(9000)+"\n")
	for _, b := range lines {
		line, used, e := Line([]byte(b))
		if e == api.ErrMore {
			continue
		}
		for _, m := range more {
			wantLine(t, b+m, line, used, e)
		}
		wantLine(t, b[:used], line, used, e)
	}
	for _, b := range append(texts("a\r\n", 5), filler(1000)+"\r\n", filler(1000)+"\r\r\n") {
		for _, n := range []int{-1, 0, 1, 2, 3, 1000, 1001} {
			body, used, e := Body([]byte(b), n)
			if e == api.ErrMore {
				continue
			}
			for _, m := range more {
				wantBody(t, b+m, n, string(body), used, e)
			}
		}
	}
}

// P13.5: what is cut at any place waits for more, and is then the same.
func TestLineAndBodyThatComeInPieces(t *testing.T) {
	for _, b := range []string{"ab\r\n", "ab\n", "\n", filler(2048) + "\n", filler(2048) + "\r\n"} {
		for i := range len(b) {
			wantLine(t, b[:i], "", 0, api.ErrMore)
		}
	}
	for _, n := range []int{0, 1, 5, 1000} {
		b := filler(n) + "\r\n"
		for i := range len(b) {
			wantBody(t, b[:i], n, "", 0, api.ErrMore)
		}
	}
}

// R3: the bytes handed in stay as they were, also those behind what was handed in.
func TestBytesThatAreHandedInStay(t *testing.T) {
	for _, was := range []string{"ab\r\ncd\r\nef\r\n", "ab\ncd\n", "ab\r\r\ncd", "abcdef"} {
		room := []byte(was)
		for size := range len(room) + 1 {
			Line(room[:size])
			for n := -1; n < 9; n++ {
				Body(room[:size], n)
				Pass(room[:size], n, false)
				Pass(room[:size], n, true)
			}
		}
		if string(room) != was {
			t.Errorf("the bytes handed in are %q now; they were %q", room, was)
		}
	}
}

// R3
func TestWhatTheCallerChangesChangesNothing(t *testing.T) {
	room := []byte("ab\r\ncd\r\n")
	line, _, _ := Line(room)
	clear(room)
	if line != "ab" {
		t.Errorf("the line is %q when the bytes have changed", line)
	}
	room = []byte("ab\r\ncd\r\n")
	body, _, _ := Body(room, 2)
	clear(room)
	if string(body) != "ab" {
		t.Errorf("the body is %q when the bytes have changed", body)
	}
	room = []byte("ab\r\ncd\r\n")
	one, _, _ := Body(room, 2)
	two, _, _ := Body(room, 2)
	one[0] = 'x'
	one = append(one, "yyyyyyyy"...)
	if string(room) != "ab\r\ncd\r\n" || string(two) != "ab" {
		t.Errorf("the bytes are %q, another body %q when a body has changed", room, two)
	}
	none, _, _ := Body(room[2:], 0)
	none = append(none, "xy"...)
	if string(room) != "ab\r\ncd\r\n" {
		t.Errorf("the bytes are %q when something was put behind a body of nothing", room)
	}
	if !bytes.Equal(one, []byte("xbyyyyyyyy")) || string(none) != "xy" {
		t.Errorf("the changed bodies are %q and %q", one, none)
	}
}

// P1, R5: any arguments, and the same ones once more.
func TestAnyArguments(t *testing.T) {
	numbers := []int{math.MinInt, math.MinInt + 1, -1, 0, 1, 2, 999, 1000, 1001, math.MaxInt - 1, math.MaxInt}
	all := []string{"", "\n", "\r", "\r\n", filler(1002), filler(1000) + "\r\n", strings.Repeat("\n", 3000), strings.Repeat("\r\n", 3000), strings.Repeat("\x00", 3000)}
	tell := func() string {
		var told strings.Builder
		for _, b := range all {
			fmt.Fprintln(&told, Key(b), Keyed(b))
			fmt.Fprintln(&told, result(Line([]byte(b))))
			for _, n := range numbers {
				fmt.Fprintln(&told, result(Body([]byte(b), n)))
				fmt.Fprintln(&told, result(Pass([]byte(b), n, false)))
				fmt.Fprintln(&told, result(Pass([]byte(b), n, true)))
			}
		}
		return told.String()
	}
	if first := tell(); first != tell() {
		t.Error("the same arguments have other answers the second time")
	}
}

func result[A, B, C any](a A, b B, c C) string { return fmt.Sprint(a, b, c) }
