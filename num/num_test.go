package num

import (
	"bytes"
	"math"
	"slices"
	"strings"
	"testing"
)

const greatest = math.MaxUint64

// numbers are the edges of every width that a number may have, and what lies beside them.
func numbers() []uint64 {
	l := []uint64{0, 7, 10, 258, 70000, 1234567890123456789, 0x0102030405060708}
	for shift := range 64 {
		n := uint64(1) << shift
		l = append(l, n-1, n, n+1)
	}
	for n := uint64(1); n <= greatest/10; n *= 10 {
		l = append(l, n-1, n, n+1)
	}
	return append(l, greatest-1, greatest)
}

// noNumbers are texts that are no Decimal, whatever the sign ahead of them.
func noNumbers() []string {
	return []string{
		"", " ", "+", "+1", "-", "--", "--1", "+-1", "-+1", "1-", "x", "1x", "x1", "1 ", " 1", "1 2",
		"1_000", "1,000", "1.0", "1e3", "0x10", "0b1", "0o7", "ff", "\x00", "1\x00", "\x001", "1\n", "1\r", "\t1",
		"/", ":", "1/", "1:", "\xb1", "\u0663", "\uff11",
		"18446744073709551616", "18446744073709551617", "18446744073709551620", "18446744073709551625",
		"20000000000000000000", "36893488147419103232", "40707673489990009221", "99999999999999999999",
		"100000000000000000000", "184467440737095516150", "340282366920938463463374607431768211456",
		strings.Repeat("9", 40), strings.Repeat("0", 20) + "18446744073709551616",
		strings.Repeat("0", 41), strings.Repeat("0", 40) + "1", strings.Repeat("0", 100000),
	}
}

func wantDecimal(t *testing.T, s string, want uint64) {
	t.Helper()
	if n, is := Decimal(s); n != want || !is {
		t.Errorf("Decimal(%q) = %d, %t; want %d, true", s, n, is, want)
	}
}

// P1.1
func TestDecimalIsTheNumberOfDigits(t *testing.T) {
	for digit := range 10 {
		wantDecimal(t, string(rune('0'+digit)), uint64(digit))
	}
	wantDecimal(t, "0123456789", 123456789)
	wantDecimal(t, "9876543210", 9876543210)
	wantDecimal(t, "18446744073709551614", greatest-1)
	wantDecimal(t, "18446744073709551615", greatest)
}

// P1.1
func TestDecimalPassesOverNoughtsAhead(t *testing.T) {
	wantDecimal(t, "007", 7)
	wantDecimal(t, "00", 0)
	wantDecimal(t, strings.Repeat("0", 40), 0)
	wantDecimal(t, strings.Repeat("0", 39)+"7", 7)
	wantDecimal(t, strings.Repeat("0", 20)+"18446744073709551615", greatest)
}

// P1.1
func TestDecimalOfWhatIsNone(t *testing.T) {
	for _, s := range append(noNumbers(), "-1", "-0", "-007") {
		if n, is := Decimal(s); n != 0 || is {
			t.Errorf("Decimal(%q) = %d, %t; want 0, false", s, n, is)
		}
	}
	for c := range 256 {
		if '0' <= c && c <= '9' {
			continue
		}
		for _, s := range []string{string([]byte{byte(c)}), string([]byte{'1', byte(c), '2'})} {
			if n, is := Decimal(s); n != 0 || is {
				t.Errorf("Decimal(%q) = %d, %t; want 0, false", s, n, is)
			}
		}
	}
}

// P1.1
func TestShowIsTheDigits(t *testing.T) {
	for n, want := range map[uint64]string{
		0: "0", 1: "1", 9: "9", 10: "10", 100: "100", 1<<32 - 1: "4294967295", 1 << 40: "1099511627776",
		1<<63 - 1: "9223372036854775807", 1 << 63: "9223372036854775808", greatest: "18446744073709551615",
	} {
		if s := Show(n); s != want {
			t.Errorf("Show(%d) = %q; want %q", n, s, want)
		}
	}
}

// P1.2
func TestSignedIsTheNumber(t *testing.T) {
	for s, want := range map[string]int{
		"0": 0, "-0": 0, "5": 5, "-5": -5, "007": 7, "-007": -7,
		"1099511627775": 1<<40 - 1, "-1099511627775": -(1<<40 - 1),
		"1099511627776": 1 << 40, "-1099511627776": -(1 << 40),
		strings.Repeat("0", 39) + "7": 7, "-" + strings.Repeat("0", 39) + "7": -7,
	} {
		if n, is := Signed(s); n != want || !is {
			t.Errorf("Signed(%q) = %d, %t; want %d, true", s, n, is, want)
		}
	}
}

// P1.2
func TestSignedOfWhatIsNone(t *testing.T) {
	far := []string{"1099511627777", "9223372036854775807", "9223372036854775808", "18446744073709551615"}
	for _, s := range append(noNumbers(), far...) {
		if n, is := Signed("-" + s); n != 0 || is {
			t.Errorf("Signed(%q) = %d, %t; want 0, false", "-"+s, n, is)
		}
		if n, is := Signed(s); n != 0 || is {
			t.Errorf("Signed(%q) = %d, %t; want 0, false", s, n, is)
		}
	}
}

func wantBytes(t *testing.T, got []byte, want ...byte) {
	t.Helper()
	if !bytes.Equal(got, want) {
		t.Errorf("got % x; want % x", got, want)
	}
}

// P1.3
func TestPutIsTheBytesHighestFirst(t *testing.T) {
	wantBytes(t, Put16(0), 0, 0)
	wantBytes(t, Put16(258), 1, 2)
	wantBytes(t, Put16(math.MaxUint16), 255, 255)
	wantBytes(t, Put32(0), 0, 0, 0, 0)
	wantBytes(t, Put32(0x01020304), 1, 2, 3, 4)
	wantBytes(t, Put32(0xfffefdfc), 255, 254, 253, 252)
	wantBytes(t, Put64(0), 0, 0, 0, 0, 0, 0, 0, 0)
	wantBytes(t, Put64(0x0102030405060708), 1, 2, 3, 4, 5, 6, 7, 8)
	wantBytes(t, Put64(1<<63+5), 128, 0, 0, 0, 0, 0, 0, 5)
	wantBytes(t, Put64(greatest), 255, 255, 255, 255, 255, 255, 255, 255)
}

// P1.3
func TestGetIsTheNumberOfBytes(t *testing.T) {
	long := append(bytes.Repeat([]byte{255}, 100000), 1, 2, 3, 4, 5, 6, 7, 8)
	for _, c := range []struct {
		b    []byte
		want uint64
	}{
		{nil, 0}, {[]byte{}, 0}, {[]byte{0}, 0}, {[]byte{200}, 200}, {[]byte{1, 2}, 258}, {[]byte{0, 0, 7}, 7},
		{[]byte{1, 2, 3}, 0x010203}, {[]byte{255, 1, 2, 3, 4, 5, 6}, 0xff010203040506},
		{[]byte{255, 2, 3, 4, 5, 6, 7, 8}, 0xff02030405060708},
		{[]byte{9, 1, 2, 3, 4, 5, 6, 7, 8}, 0x0102030405060708},
		{[]byte{255, 255, 0, 0, 0, 0, 0, 0, 0, 0}, 0}, {long, 0x0102030405060708},
	} {
		if n := Get(c.b); n != c.want {
			t.Errorf("Get of %d bytes = %x; want %x", len(c.b), n, c.want)
		}
	}
}

// P1.3, R3
func TestBytesAreTheCallersOwn(t *testing.T) {
	b := Put64(258)
	clear(b)
	wantBytes(t, Put64(258), 0, 0, 0, 0, 0, 0, 1, 2)
	handed := []byte{9, 8, 7, 6, 5, 4, 3, 2, 1}
	Get(handed)
	wantBytes(t, handed, 9, 8, 7, 6, 5, 4, 3, 2, 1)
}

// lines are lines and their words.
func lines() []struct {
	s    string
	want []string
} {
	return []struct {
		s    string
		want []string
	}{
		{"", nil}, {" ", nil}, {"     ", nil},
		{"a", []string{"a"}}, {" a", []string{"a"}}, {"a ", []string{"a"}}, {"   abc   ", []string{"abc"}},
		{" a  bc", []string{"a", "bc"}}, {"a b c", []string{"a", "b", "c"}}, {"a a a a", []string{"a", "a", "a", "a"}},
		{"  set   key  7 0    2  ", []string{"set", "key", "7", "0", "2"}},
		{"a\tb\nc\rd\ve\ff \x00 \x1f!", []string{"a\tb\nc\rd\ve\ff", "\x00", "\x1f!"}},
		{"\xa0 \x85\xff \u00a0\u2003\u3000 \u00e9", []string{"\xa0", "\x85\xff", "\u00a0\u2003\u3000", "\u00e9"}},
		{strings.Repeat("x", 5000) + " " + strings.Repeat("y", 5000), []string{strings.Repeat("x", 5000), strings.Repeat("y", 5000)}},
	}
}

// P1.4
func TestWordsAreThePiecesBetweenBlanks(t *testing.T) {
	for _, c := range lines() {
		if l := slices.Collect(Words(c.s)); !slices.Equal(l, c.want) {
			t.Errorf("Words(%q) = %q; want %q", c.s, l, c.want)
		}
	}
	if l := slices.Collect(Words(strings.Repeat(" w", 10000))); len(l) != 10000 {
		t.Errorf("got %d words; want 10000", len(l))
	}
}

// P1.4
func TestWordsMayBeLeftBehindAny(t *testing.T) {
	for _, c := range lines() {
		for many := 1; many <= len(c.want); many++ {
			var l []string
			Words(c.s)(func(w string) bool {
				l = append(l, w)
				return len(l) != many
			})
			if !slices.Equal(l, c.want[:many]) {
				t.Errorf("Words(%q), left behind %d of them: %q; want %q", c.s, many, l, c.want[:many])
			}
		}
	}
}

// P1.4, R5
func TestWordsBeginAnewEachTime(t *testing.T) {
	words := Words(" a  bc d ")
	for w := range words {
		if w != "a" {
			t.Errorf("the first word is %q; want a", w)
		}
		break
	}
	want := []string{"a", "bc", "d"}
	for range 2 {
		if l := slices.Collect(words); !slices.Equal(l, want) {
			t.Errorf("got %q; want %q", l, want)
		}
	}
}

// P1.5
func TestThereAndBack(t *testing.T) {
	for _, n := range numbers() {
		wantDecimal(t, Show(n), n)
		if got := Get(Put64(n)); got != n {
			t.Errorf("Get(Put64(%d)) = %d", n, got)
		}
		if got := Get(Put32(uint32(n))); got != uint64(uint32(n)) {
			t.Errorf("Get(Put32(%d)) = %d", uint32(n), got)
		}
	}
	for n := range math.MaxUint16 + 1 {
		if got := Get(Put16(uint16(n))); got != uint64(n) {
			t.Errorf("Get(Put16(%d)) = %d", n, got)
		}
	}
}

// P1.5
func TestWordsOfWordsAreTheSame(t *testing.T) {
	for _, c := range lines() {
		l := slices.Collect(Words(c.s))
		again := slices.Collect(Words(strings.Join(l, " ")))
		if !slices.Equal(l, again) {
			t.Errorf("Words of the words of %q = %q; want %q", c.s, again, l)
		}
	}
}
