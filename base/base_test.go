package base

import (
	"bytes"
	"encoding/base64"
	"strings"
	"testing"

	"buttery/api"
)

// alphabet is told here once more, so that a slip in the package's own is found.
func alphabet() string {
	var s strings.Builder
	for _, ends := range []string{"AZ", "az", "09"} {
		for c := ends[0]; c <= ends[1]; c++ {
			s.WriteByte(c)
		}
	}
	return s.String() + "+/"
}

// pairs are bytes and their texts, written out.
func pairs() map[string]string {
	return map[string]string{
		"": "", "a": "YQ==", "ab": "YWI=", "abc": "YWJj", "abcd": "YWJjZA==", "abcde": "YWJjZGU=", "abcdef": "YWJjZGVm",
		"\x00": "AA==", "\x00\x00": "AAA=", "\x00\x00\x00": "AAAA", "\x00\x00\x00\x00": "AAAAAA==",
		"\xff": "/w==", "\xff\xff": "//8=", "\xff\xff\xff": "////", "\xff\xfe\xfd\xfc": "//79/A==",
		"\x01": "AQ==", "\x00\x01": "AAE=", "\x00\x00\x01": "AAAB", "\x80": "gA==", "\x00\x80": "AIA=",
		"\x01\x02\x03": "AQID", "\x03\x02\x01": "AwIB", "\xfb\xef\xbe": "++++", "\r\n": "DQo=", "a key\n": "YSBrZXkK",
	}
}

// samples are lists of bytes of many lengths, each with a pattern of its own.
func samples() [][]byte {
	var l [][]byte
	for size := range 200 {
		b := make([]byte, size)
		for i := range b {
			b[i] = byte(i*i*31 + i*97 + size*53)
		}
		l = append(l, b)
	}
	return append(l, bytes.Repeat([]byte{255, 0, 254}, 33333), make([]byte, 100000), bytes.Repeat([]byte{255}, 100001))
}

func wantDecoded(t *testing.T, s, want string) {
	t.Helper()
	if b, e := Decode(s); string(b) != want || e != api.OK {
		t.Errorf("Decode(%.40q) = %.40q, %d; want %.40q, OK", s, b, e, want)
	}
}

func wantNoText(t *testing.T, s string) {
	t.Helper()
	if b, e := Decode(s); len(b) != 0 || e != api.ErrForm {
		t.Errorf("Decode(%.40q) = %.40q, %d; want nothing, ErrForm", s, b, e)
	}
}

// P2.1
func TestEncodeIsTheText(t *testing.T) {
	for b, want := range pairs() {
		if s := Encode([]byte(b)); s != want {
			t.Errorf("Encode(%q) = %q; want %q", b, s, want)
		}
	}
	if s := Encode(nil); s != "" {
		t.Errorf("Encode(nil) = %q; want no text", s)
	}
}

// P2.1
func TestEncodeHasEachSignAtEachPlace(t *testing.T) {
	for n, sign := range []byte(alphabet()) {
		for place := range 4 {
			bits := n << (18 - 6*place)
			want := []byte("AAAA")
			want[place] = sign
			b := []byte{byte(bits >> 16), byte(bits >> 8), byte(bits)}
			if s := Encode(b); s != string(want) {
				t.Errorf("Encode(% x) = %q; want %q", b, s, want)
			}
		}
	}
}

// P2.1
func TestEncodeOfWhatIsLeft(t *testing.T) {
	signs := alphabet()
	for _, ahead := range []struct{ b, text string }{{"", ""}, {"abc", "YWJj"}, {"abcabc", "YWJjYWJj"}} {
		for x := range 256 {
			want := ahead.text + string([]byte{signs[x>>2], signs[x&3<<4], '=', '='})
			if s := Encode(append([]byte(ahead.b), byte(x))); s != want {
				t.Errorf("Encode of %q and %x = %q; want %q", ahead.b, x, s, want)
			}
			for y := range 256 {
				want := ahead.text + string([]byte{signs[x>>2], signs[x&3<<4|y>>4], signs[y&15<<2], '='})
				if s := Encode(append([]byte(ahead.b), byte(x), byte(y))); s != want {
					t.Errorf("Encode of %q, %x and %x = %q; want %q", ahead.b, x, y, s, want)
				}
			}
		}
	}
}

// P2.1
func TestEncodeIsWhatAnotherMakerTells(t *testing.T) {
	for _, b := range samples() {
		if s, want := Encode(b), base64.StdEncoding.EncodeToString(b); s != want {
			t.Errorf("Encode of %d bytes = %.60q; want %.60q", len(b), s, want)
		}
	}
}

// P2.2
func TestDecodeIsTheBytes(t *testing.T) {
	for want, s := range pairs() {
		wantDecoded(t, s, want)
	}
	for _, b := range samples() {
		wantDecoded(t, base64.StdEncoding.EncodeToString(b), string(b))
	}
}

// P2.2
func TestDecodeKnowsEachSignAtEachPlace(t *testing.T) {
	for n, sign := range []byte(alphabet()) {
		for place := range 4 {
			text := []byte("AAAA")
			text[place] = sign
			bits := n << (18 - 6*place)
			wantDecoded(t, string(text), string([]byte{byte(bits >> 16), byte(bits >> 8), byte(bits)}))
		}
	}
}

// P2.2
func TestDecodeOfALengthThatIsNoMultipleOfFour(t *testing.T) {
	for _, s := range []string{"Y", "YQ", "YQ=", "YWI", "YWJ", "=", "==", "===", "YWJjZ", "YWJjZA", "YWJjZA=", "YWJjZGU", "YQ===", "YWI==", "YWJj=", "YWJj==", "YWJj==="} {
		wantNoText(t, s)
	}
	for size := range 100 {
		if size%4 != 0 {
			wantNoText(t, strings.Repeat("A", size))
		}
	}
}

// P2.2
func TestDecodeOfASignThatIsNone(t *testing.T) {
	for c := range 256 {
		if strings.IndexByte(alphabet(), byte(c)) >= 0 {
			continue
		}
		for _, text := range []string{"AAAA", "AAAAAAAA", "AAAAAAA=", "AAAAAA=="} {
			for place := range len(text) {
				s := []byte(text)
				s[place] = byte(c)
				if c == '=' && place >= len(text)-2 {
					continue // there it may fill up
				}
				wantNoText(t, string(s))
			}
		}
	}
	for _, s := range []string{"Y Q=", "YW-_", "YWJj\r\n\r\n", "YWJ\n", "\nYWJ", "YW\r\nJjAA", "\u00e9AA", "    ", "\x00\x00\x00\x00"} {
		wantNoText(t, s)
	}
}

// P2.2
func TestDecodeOfSignsThatFillUpWhereNoneMayStand(t *testing.T) {
	for _, s := range []string{
		"====", "Y===", "=YQ=", "==YQ", "=AAA", "A=AA", "AA=A", "YQ=a", "YQ=A", "=A==", "A=A=", "=AA=", "A==A", "=A=A",
		"YQ==YQ==", "YWI=YWI=", "YQ==YWJj", "YWI=YWJj", "YWJj====", "YWJjY===", "YWJj=AAA", "YQ======", "YWI=====", "========", "YQ==AAAA",
		strings.Repeat("=", 100000),
	} {
		wantNoText(t, s)
	}
}

// P2.2
func TestDecodeOfBitsBehindThatAreNoNoughts(t *testing.T) {
	for n, sign := range []byte(alphabet()) {
		for _, ahead := range []struct{ b, text string }{{"", ""}, {"abc", "YWJj"}} {
			one, two := ahead.text+"/"+string(sign)+"==", ahead.text+"//"+string(sign)+"="
			if n&15 == 0 {
				wantDecoded(t, one, ahead.b+string([]byte{byte(0xfc | n>>4)}))
			} else {
				wantNoText(t, one)
			}
			if n&3 == 0 {
				wantDecoded(t, two, ahead.b+string([]byte{0xff, byte(0xf0 | n>>2)}))
			} else {
				wantNoText(t, two)
			}
		}
	}
}

// P2.2: all texts of four of these signs, held against another maker.
func TestDecodeOfAllShortTexts(t *testing.T) {
	const some = "AQgw/BJ=-"
	for i := range len(some) * len(some) * len(some) * len(some) {
		var text []byte
		for n := i; len(text) < 4; n /= len(some) {
			text = append(text, some[n%len(some)])
		}
		want, err := base64.StdEncoding.Strict().DecodeString(string(text))
		if err != nil {
			wantNoText(t, string(text))
		} else {
			wantDecoded(t, string(text), string(want))
		}
	}
}

// P2.1, P2.2, R3
func TestBytesAreTheCallersOwn(t *testing.T) {
	room := []byte("abcdefgh")
	Encode(room[:4])
	Encode(room[:5])
	if string(room) != "abcdefgh" {
		t.Errorf("the bytes handed in are %q now", room)
	}
	b, _ := Decode("YWJj")
	clear(b)
	wantDecoded(t, "YWJj", "abc")
}

// P2.3
func TestDecodeOfEncodeIsIt(t *testing.T) {
	l := samples()
	for i := range 1 << 16 {
		l = append(l, []byte{byte(i >> 8), byte(i)}, []byte{byte(i), byte(i >> 8), byte(i * 7)})
	}
	for _, b := range l {
		s := Encode(b)
		if want := (len(b) + 2) / 3 * 4; len(s) != want {
			t.Errorf("Encode of %d bytes has %d signs; want %d", len(b), len(s), want)
		}
		wantDecoded(t, s, string(b))
	}
}

// P2.3
func TestEncodeOfDecodeIsIt(t *testing.T) {
	for _, s := range []string{"", "AAAA", "YQ==", "YWI=", "//79/A==", strings.Repeat(alphabet(), 50), strings.Repeat(alphabet(), 50) + "gA=="} {
		b, e := Decode(s)
		if got := Encode(b); got != s || e != api.OK {
			t.Errorf("Encode of Decode(%.40q) = %.40q, %d", s, got, e)
		}
	}
}
