package metain

import (
	"bytes"
	"encoding/base64"
	"fmt"
	"slices"
	"strings"
	"testing"

	"buttery/api"
	"buttery/frame"
)

const (
	none    = "ERROR"
	many    = "CLIENT_ERROR too many flags"
	invalid = "CLIENT_ERROR invalid flag"
	again   = "CLIENT_ERROR duplicate flag"
	token   = "CLIENT_ERROR bad token in command line format"
	bad     = "CLIENT_ERROR bad command line format"
	chunk   = "CLIENT_ERROR bad data chunk"
	long    = "CLIENT_ERROR line too long"
	large   = "SERVER_ERROR object too large for cache"
)

// behinds are bytes that may come behind a request.
var behinds = []string{"", "\r", "\n", "\r\n", " ", "x", "mg a v\r\n", "q\r\n", "\x00\xff", strings.Repeat("y", 3000)}

func sameCmd(a, b api.Cmd) bool {
	return a.Op == b.Op && a.Key == b.Key && bytes.Equal(a.Value, b.Value) && a.Flags == b.Flags && a.Exp == b.Exp && a.CAS == b.CAS && a.Delta == b.Delta && a.Initial == b.Initial && a.Makes == b.Makes && a.Sets == b.Sets
}

func sameForm(a, b api.Form) bool {
	return a.Dialect == b.Dialect && a.Verb == b.Verb && a.Code == b.Code && a.Opaque == b.Opaque && a.Quiet == b.Quiet && a.WithCAS == b.WithCAS && a.Flags == b.Flags && slices.Equal(a.Tokens, b.Tokens) && slices.Equal(a.Keys, b.Keys) && a.Base64 == b.Base64
}

func sameStep(a, b api.Step) bool {
	return slices.EqualFunc(a.Req.Cmds, b.Req.Cmds, sameCmd) && sameForm(a.Req.Form, b.Req.Form) && a.Reply == b.Reply && a.Used == b.Used && a.Skip == b.Skip && a.Line == b.Line && a.E == b.E
}

func shown(p api.Step) string {
	s := fmt.Sprintf("%+v", p)
	return s[:min(len(s), 400)]
}

func wantStep(t *testing.T, b string, want api.Step) {
	t.Helper()
	if p := Parse([]byte(b)); !sameStep(p, want) {
		t.Errorf("Parse(%.60q of %d) = %s; want %s", b, len(b), shown(p), shown(want))
	}
}

// wantMore asks for ErrMore alone.
func wantMore(t *testing.T, b string) {
	t.Helper()
	wantStep(t, b, api.Step{E: api.ErrMore})
}

// ends are those that a line may have: a line feed alone would take a carriage return at its end away from it.
func ends(line string) []string {
	if strings.HasSuffix(line, "\r") {
		return []string{"\r\n"}
	}
	return []string{"\n", "\r\n"}
}

// wantReply asks for the error of a line, with either end and whatever comes behind.
func wantReply(t *testing.T, line, reply string, skip int) {
	t.Helper()
	for _, end := range ends(line) {
		for _, more := range behinds {
			wantStep(t, line+end+more, api.Step{E: api.ErrForm, Reply: reply + "\r\n", Used: len(line + end), Skip: skip})
		}
	}
}

// wantRequest asks for the request of a line and, with a body, of that one, with either end of the line and whatever comes behind.
func wantRequest(t *testing.T, line, body string, form api.Form, cmd api.Cmd) {
	t.Helper()
	form.Dialect = api.DMeta
	for _, end := range ends(line) {
		b := line + end + body
		for _, more := range behinds {
			wantStep(t, b+more, api.Step{Req: api.Request{Cmds: []api.Cmd{cmd}, Form: form}, Used: len(b)})
		}
	}
}

// form is that of a verb and some keys.
func form(verb string, keys ...string) api.Form { return api.Form{Verb: verb, Keys: keys} }

// answering is a form with these flags, all of them without a token.
func answering(f api.Form, flags string) api.Form {
	f.Flags = flags
	f.Tokens = make([]string, len(flags))
	return f
}

func quiet(f api.Form) api.Form {
	f.Quiet = true
	return f
}

func noughts(n int) string { return strings.Repeat("0", n) }

// filler is so many bytes, all of which a key may have.
func filler(size int) string {
	b := make([]byte, size)
	for i := range b {
		b[i] = byte('a' + i%26)
	}
	return string(b)
}

func encoded(s string) string { return base64.StdEncoding.EncodeToString([]byte(s)) }

// kind is a verb of the table: the beginning of a line of it, with the body of that one, what it asks for without flags, and the flags that it has.
type kind struct {
	line, body   string
	cmd          api.Cmd
	bare, tokens string
}

func (k kind) verb() string { return k.line[:2] }

var (
	mg    = kind{"mg k", "", api.Cmd{Op: api.OMeta, Key: "k"}, "bcfkqstv", "OTN"}
	ms    = kind{"ms k 2", "xy\r\n", api.Cmd{Op: api.OSet, Key: "k", Value: []byte("xy")}, "bckq", "OFTCM"}
	md    = kind{"md k", "", api.Cmd{Op: api.ODelete, Key: "k"}, "bkqI", "OCT"}
	ma    = kind{"ma k", "", api.Cmd{Op: api.OIncr, Key: "k", Delta: 1}, "bckqtv", "OCDJNM"}
	kinds = []kind{mg, ms, md, ma}
)

// skip is how many bytes are passed over behind an error of a line of it.
func (k kind) skip() int { return len(k.body) }

// whole is a token of each letter that has one, but for M.
var whole = map[string]string{"O": "x", "F": "7", "T": "5", "N": "9", "C": "3", "D": "4", "J": "6"}

// flagOf is a flag that a verb has, whole.
func (k kind) flagOf(letter string) string {
	if letter == "M" {
		return map[string]string{"ms": "MA", "ma": "MD"}[k.verb()]
	}
	if strings.Contains(k.tokens, letter) {
		return letter + whole[letter]
	}
	return letter
}

// sets tells whether its T tells more than Exp.
func (k kind) sets() bool { return k.verb() == "mg" || k.verb() == "md" }

// withFlag is what a line of the kind asks for, behind the flag that flagOf tells of that letter.
func (k kind) withFlag(letter string) (api.Form, api.Cmd) {
	f, c := form(k.verb(), "k"), k.cmd
	switch letter {
	case "b":
		f.Base64 = true
	case "q":
		f.Quiet = true
	case "I":
		c.Op = api.OStale
	case "M":
		c.Op = map[string]int{"ms": api.OAppend, "ma": api.ODecr}[k.verb()]
	case "F":
		c.Flags = 7
	case "T":
		c.Exp, c.Sets = 5, k.sets()
	case "N":
		c.Exp, c.Makes = 9, true
	case "C":
		c.CAS = 3
	case "D":
		c.Delta = 4
	case "J":
		c.Initial = 6
	}
	if strings.Contains("bcfkOstv", letter) {
		f.Flags, f.Tokens = letter, []string{strings.TrimPrefix(k.flagOf(letter), letter)}
	}
	return f, c
}

// letters are all that a verb has.
func (k kind) letters() []string { return strings.Split(k.bare+k.tokens, "") }

// P18.1 to P18.3: the chapter's examples.
func TestTheExamples(t *testing.T) {
	wantRequest(t, "mg k t v q", "", quiet(answering(form("mg", "k"), "tv")), mg.cmd)
	wantRequest(t, "ms k 2 T5", "xy\r\n", form("ms", "k"), api.Cmd{Op: api.OSet, Key: "k", Exp: 5, Value: []byte("xy")})
	wantReply(t, "mg k t t", again, 0)
}

// P18.1, P18.3: what is said in the dialect among the ten examples of the whole.
func TestTheExamplesOfTheWhole(t *testing.T) {
	wantRequest(t, "mg k t f v", "", answering(form("mg", "k"), "tfv"), mg.cmd)
	wantRequest(t, "md k I T30", "", form("md", "k"), api.Cmd{Op: api.OStale, Key: "k", Exp: 30, Sets: true})
	wantRequest(t, "mg k v", "", answering(form("mg", "k"), "v"), mg.cmd)
	wantRequest(t, "ma n N0 J3 v", "", answering(form("ma", "n"), "v"), api.Cmd{Op: api.OIncr, Key: "n", Delta: 1, Initial: 3, Makes: true})
}

// P18.1, P18.3
func TestEveryVerbWithoutFlags(t *testing.T) {
	for _, k := range kinds {
		wantRequest(t, k.line, k.body, form(k.verb(), "k"), k.cmd)
	}
	wantRequest(t, "mn", "", form("mn"), api.Cmd{Op: api.ONoop})
}

// P18.1, P18.3: each flag of each verb, as it should be.
func TestEveryFlag(t *testing.T) {
	for _, k := range kinds {
		for _, letter := range k.letters() {
			f, c := k.withFlag(letter)
			line := k.line
			if letter == "b" {
				line = strings.Replace(line, "k", "aw==", 1)
				f.Keys = []string{"aw=="}
			}
			wantRequest(t, line+" "+k.flagOf(letter), k.body, f, c)
		}
	}
}

// P18.1: a token where there should be none, and none where there should be one.
func TestFlagsWithATokenTooMany(t *testing.T) {
	for _, k := range kinds {
		for _, letter := range strings.Split(k.bare, "") {
			for _, more := range []string{"1", "0", "x", letter, "\x00", "=", "-"} {
				wantReply(t, k.line+" "+letter+more, invalid, k.skip())
			}
		}
		for _, letter := range strings.Split(k.tokens, "") {
			wantReply(t, k.line+" "+letter, token, k.skip())
		}
	}
}

// P18.1: every letter that a verb has not.
func TestFlagsThatAVerbHasNot(t *testing.T) {
	for _, k := range kinds {
		for c := range 256 {
			letter := string([]byte{byte(c)})
			if strings.Contains(k.bare+k.tokens, letter) || c == '\n' || c == ' ' {
				continue
			}
			for _, more := range []string{"", "1", "5", "x", "S"} {
				if c == '\r' && more == "" {
					more = "\r"
				}
				wantReply(t, k.line+" "+letter+more, invalid, k.skip())
			}
		}
		wantReply(t, k.line+" \xc3\xa9", invalid, k.skip())
		wantReply(t, k.line+" no", invalid, k.skip())
		wantReply(t, k.line+" noreply", invalid, k.skip())
	}
	for line, skip := range map[string]int{"mg k F1": 0, "mg k C1": 0, "mg k M1": 0, "mg k D1": 0, "mg k J1": 0, "mg k I": 0, "mg k 5": 0, "ms k 2 N5": 4, "ms k 2 D1": 4, "ms k 2 J1": 4, "ms k 2 I": 4, "ms k 2 v": 4, "ms k 2 t": 4, "ms k 2 s": 4, "ms k 2 f": 4, "md k c": 0, "md k v": 0, "md k N5": 0, "md k MI": 0, "md k F1": 0, "ma k T5": 0, "ma k f": 0, "ma k s": 0, "ma k I": 0, "ma k F1": 0} {
		wantReply(t, line, invalid, skip)
	}
}

// P18.1: whichever letter comes twice, with the same token or another one.
func TestFlagsThatComeTwice(t *testing.T) {
	for _, k := range kinds {
		for _, letter := range k.letters() {
			flag := k.flagOf(letter)
			wantReply(t, k.line+" "+flag+" "+flag, again, k.skip())
			for _, between := range k.letters() {
				if between != letter {
					wantReply(t, k.line+" "+flag+" "+k.flagOf(between)+" "+flag, again, k.skip())
				}
			}
		}
		for _, letter := range strings.Split(k.tokens, "") {
			for _, other := range []string{"", "2", "x", "A", "\x00", "-", filler(33)} {
				wantReply(t, k.line+" "+k.flagOf(letter)+" "+letter+other, again, k.skip())
			}
		}
		for _, letter := range strings.Split(k.bare, "") {
			wantReply(t, k.line+" "+letter+" "+letter+"1", invalid, k.skip())
		}
	}
	wantReply(t, "ma k D1 d1", invalid, 0)
	wantRequest(t, "mg k t T5", "", answering(form("mg", "k"), "t"), api.Cmd{Op: api.OMeta, Key: "k", Exp: 5, Sets: true}) // another letter
}

// P18.1
func TestManyFlags(t *testing.T) {
	for _, k := range kinds {
		all := ""
		for _, letter := range k.letters() {
			all += " " + k.flagOf(letter)
		}
		have := len(k.letters())
		for n, want := range map[int]string{have + 1: again, 15: again, 16: again, 17: many, 18: many, 200: many} {
			wantReply(t, k.line+all+strings.Repeat(" k", n-have), want, k.skip())
		}
		wantReply(t, k.line+strings.Repeat(" !", 16), invalid, k.skip())
		wantReply(t, k.line+strings.Repeat(" !", 17), many, k.skip())
		wantReply(t, k.line+strings.Repeat(" O", 16), token, k.skip())
		wantReply(t, k.line+strings.Repeat(" O", 17), many, k.skip())
	}
	wantReply(t, "mg \x7f"+strings.Repeat(" !", 17), many, 0)
	wantReply(t, "ms \x7f x"+strings.Repeat(" !", 17), many, 0)
	wantReply(t, "ms \x7f 1001"+strings.Repeat(" q", 17), many, 1003)
	wantReply(t, "ms k 5"+strings.Repeat(" q", 17), many, 7)
	wantReply(t, "mn"+strings.Repeat(" q", 17), none, 0)
	wantReply(t, "mx k"+strings.Repeat(" q", 17), none, 0)
}

// P18.3: all flags of a verb at once, in several orders.
func TestAllFlagsOfAVerb(t *testing.T) {
	wantRequest(t, "mg aw== b c f k q s t v Oxyz T5 N9", "", api.Form{Verb: "mg", Keys: []string{"aw=="}, Quiet: true, Base64: true, Flags: "bcfkstvO", Tokens: []string{"", "", "", "", "", "", "", "xyz"}}, api.Cmd{Op: api.OMeta, Key: "k", Exp: 9, Sets: true, Makes: true})
	wantRequest(t, "mg aw== N9 T5 O1 v t s q k f c b", "", api.Form{Verb: "mg", Keys: []string{"aw=="}, Quiet: true, Base64: true, Flags: "Ovtskfcb", Tokens: []string{"1", "", "", "", "", "", "", ""}}, api.Cmd{Op: api.OMeta, Key: "k", Exp: 5, Sets: true, Makes: true})
	wantRequest(t, "ms aw== 2 b c k q O== F7 T-5 C3 MP", "xy\r\n", api.Form{Verb: "ms", Keys: []string{"aw=="}, Quiet: true, Base64: true, Flags: "bckO", Tokens: []string{"", "", "", "=="}}, api.Cmd{Op: api.OPrepend, Key: "k", Value: []byte("xy"), Flags: 7, Exp: -5, CAS: 3})
	wantRequest(t, "md aw== T5 I O\x00\xff q C3 k b", "", api.Form{Verb: "md", Keys: []string{"aw=="}, Quiet: true, Base64: true, Flags: "Okb", Tokens: []string{"\x00\xff", "", ""}}, api.Cmd{Op: api.OStale, Key: "k", Exp: 5, Sets: true, CAS: 3})
	wantRequest(t, "ma aw== v Ov t MD J6 k c q N9 D4 C3 b", "", api.Form{Verb: "ma", Keys: []string{"aw=="}, Quiet: true, Base64: true, Flags: "vOtkcb", Tokens: []string{"", "v", "", "", "", ""}}, api.Cmd{Op: api.ODecr, Key: "k", Delta: 4, Initial: 6, Exp: 9, Makes: true, CAS: 3})
}

// P18.3: Flags and Tokens come in the order in which they are told, without those that are not answered.
func TestTheOrderOfFlags(t *testing.T) {
	for line, want := range map[string]struct {
		flags  string
		tokens []string
	}{
		"mg k v t":              {"vt", []string{"", ""}},
		"mg k t v":              {"tv", []string{"", ""}},
		"mg k Oa t":             {"Ot", []string{"a", ""}},
		"mg k t Oa":             {"tO", []string{"", "a"}},
		"mg k t N5 Oa T6 s":     {"tOs", []string{"", "a", ""}},
		"mg k q T5 N6":          {"", nil},
		"ms k 2 MS F1 C2 T3":    {"", nil},
		"ms k 2 c MS Oq F1 k q": {"cOk", []string{"", "q", ""}},
		"md k I C1 T2 q":        {"", nil},
		"md k k I OO":           {"kO", []string{"", "O"}},
		"ma k D1 J2 N3 C4 MI q": {"", nil},
		"ma k t D1 v J2 c":      {"tvc", []string{"", "", ""}},
	} {
		p := Parse([]byte(line + "\r\nxy\r\n"))
		if f := p.Req.Form; p.E != api.OK || f.Flags != want.flags || !slices.Equal(f.Tokens, want.tokens) {
			t.Errorf("Parse(%q) = %s; want the flags %q, %q", line, shown(p), want.flags, want.tokens)
		}
	}
}

// P18.1: words that are too few, or none, and verbs that are not.
func TestLinesThatAreNone(t *testing.T) {
	for _, blanks := range []int{0, 1, 2, 3, 100, 2048} {
		wantReply(t, strings.Repeat(" ", blanks), none, 0)
	}
	for _, line := range []string{"mg", "ms", "ms k", "md", "ma", "mg ", " ms  k ", "ms 5", "mn x", "mn q", "mn k v", "mn mn", "mn 5 5 5", "mn \x00", "ms " + filler(251), "ms \x7f", "mg\x00k"} {
		wantReply(t, line, none, 0)
	}
	for _, verb := range []string{"m", "mx", "me", "MG", "Mg", "mG", "mgx", "mgg", "mg\x00", "mg\t", "mg\rx", "\x00mg", "\tmg", "gm", "mss", "mnn", "mN", "nm", "k", "q", "5", "get", "set", "incr", "foo", "\x80", "\xff\xff", "\x00", "\r\r", "m\xc3\xa9", filler(2048)[:2000]} {
		for _, rest := range []string{"", " k", " k 2", " k 2 q", " k q v", " \x7f x !", " k 1001", " k 0 0 5"} {
			wantReply(t, verb+rest, none, 0)
		}
	}
}

// P18.1
func TestLinesWithoutTheirEnd(t *testing.T) {
	wantMore(t, "")
	if p := Parse(nil); !sameStep(p, api.Step{E: api.ErrMore}) {
		t.Errorf("Parse(nil) = %s", shown(p))
	}
	for _, b := range []string{" ", "x", "mg", "mg a", "mg a\r", "nothing", "\r", "   ", "ms k 1001", "mg k !", "mg k t t", "\x00\xff", "mg \x7f", "mn x"} {
		wantMore(t, b)
	}
	for _, k := range kinds {
		line := k.line + " k Ox q"
		for n := range line {
			wantMore(t, line[:n])
		}
		wantMore(t, line)
		wantMore(t, line+"\r")
	}
	for _, size := range []int{1000, 2047, 2048, 2049} {
		wantMore(t, strings.Repeat("a", size))
		wantMore(t, strings.Repeat(" ", size))
		wantMore(t, strings.Repeat("a", size-1)+"\r")
	}
}

// P18.1
func TestLinesThatAreTooLong(t *testing.T) {
	for _, sign := range []string{"a", " ", "\x00", "\r", "\xff"} {
		for _, size := range []int{2050, 2051, 2052, 4096, 16384, 100000} {
			b := strings.Repeat(sign, size)
			wantStep(t, b, api.Step{E: api.ErrForm, Reply: long + "\r\n", Used: size, Line: true})
			for _, more := range behinds {
				wantStep(t, b+"\n"+more, api.Step{E: api.ErrForm, Reply: long + "\r\n", Used: size + 1})
				wantStep(t, b+"\r\n"+more, api.Step{E: api.ErrForm, Reply: long + "\r\n", Used: size + 2})
			}
		}
	}
	b := "ms k 5" + strings.Repeat(" ", 2049-6)
	wantStep(t, b+"\nhello\r\n", api.Step{E: api.ErrForm, Reply: long + "\r\n", Used: 2050})
	wantStep(t, b+"\r\nhello\r\n", api.Step{E: api.ErrForm, Reply: long + "\r\n", Used: 2051})
	wantStep(t, b+" ", api.Step{E: api.ErrForm, Reply: long + "\r\n", Used: 2050, Line: true})
	wantMore(t, b)
}

// P18.1
func TestTheLongestLine(t *testing.T) {
	line := "ms k 2 F7" + strings.Repeat(" ", 2048-9)
	wantRequest(t, line, "xy\r\n", form("ms", "k"), api.Cmd{Op: api.OSet, Key: "k", Flags: 7, Value: []byte("xy")})
	wantRequest(t, "mg"+strings.Repeat(" ", 2045)+"k", "", form("mg", "k"), mg.cmd)
	wantReply(t, strings.Repeat("a", 2048), none, 0)
	wantReply(t, "mg k"+strings.Repeat(" v", 1022), many, 0) // as many as a line may have
}

// P18.1: blanks between words, ahead of them and behind them play no part.
func TestBlanksBetweenWords(t *testing.T) {
	for _, k := range kinds {
		line := "  " + strings.ReplaceAll(k.line+" k Ox", " ", "   ") + "  "
		f := answering(form(k.verb(), "k"), "kO")
		f.Tokens[1] = "x"
		wantRequest(t, line, k.body, f, k.cmd)
	}
	wantRequest(t, "  mn  ", "", form("mn"), api.Cmd{Op: api.ONoop})
}

// P18.1: Opaque tokens.
func TestO(t *testing.T) {
	tokens := []string{"x", "0", "-", "O", "xy", filler(31), filler(32), strings.Repeat("\xff", 32), strings.Repeat("\xc3\xa9", 16)}
	for c := range 256 {
		if c != ' ' && c != '\n' && c != '\r' {
			tokens = append(tokens, string([]byte{byte(c)}))
		}
	}
	for _, k := range kinds {
		for _, told := range tokens {
			wantRequest(t, k.line+" O"+told, k.body, api.Form{Verb: k.verb(), Keys: []string{"k"}, Flags: "O", Tokens: []string{told}}, k.cmd)
		}
		for _, told := range []string{"", filler(33), filler(34), filler(250), filler(1000), strings.Repeat("\xc3\xa9", 17), strings.Repeat("\x00", 33)} {
			wantReply(t, k.line+" O"+told, token, k.skip())
		}
	}
}

// P18.1
func TestF(t *testing.T) {
	for told, flags := range map[string]uint32{"0": 0, "00": 0, "1": 1, "007": 7, "65536": 65536, "2147483648": 1 << 31, "4294967295": 1<<32 - 1, noughts(30) + "4294967295": 1<<32 - 1} {
		for mode, op := range map[string]int{"": api.OSet, " MS": api.OSet, " ME": api.OAdd, " MA": api.OAppend, " MP": api.OPrepend, " MR": api.OReplace} {
			wantRequest(t, ms.line+" F"+told+mode, ms.body, form("ms", "k"), api.Cmd{Op: op, Key: "k", Flags: flags, Value: []byte("xy")})
		}
	}
	for _, told := range []string{"", "4294967296", "4294967297", "18446744073709551615", "18446744073709551616", "-1", "-0", "+1", "x", "1x", "0x1", "1.0", "1e3", "1_0", noughts(41), "\x00", "k"} {
		wantReply(t, ms.line+" F"+told, token, ms.skip())
	}
}

// P18.1: T and N of all verbs that have them.
func TestTAndN(t *testing.T) {
	for told, exp := range map[string]int{"0": 0, "-0": 0, "00": 0, "1": 1, "-1": -1, "007": 7, "-007": -7, "2592000": 2592000, "2592001": 2592001, "1099511627775": 1<<40 - 1, "1099511627776": 1 << 40, "-1099511627776": -1 << 40, noughts(27) + "1099511627776": 1 << 40} {
		for _, k := range kinds {
			c := k.cmd
			c.Exp = exp
			if strings.Contains(k.tokens, "T") {
				c.Sets = k.sets()
				wantRequest(t, k.line+" T"+told, k.body, form(k.verb(), "k"), c)
				c.Sets = false
			}
			if strings.Contains(k.tokens, "N") {
				c.Makes = true
				wantRequest(t, k.line+" N"+told, k.body, form(k.verb(), "k"), c)
			}
		}
		wantRequest(t, "md k I T"+told, "", form("md", "k"), api.Cmd{Op: api.OStale, Key: "k", Exp: exp, Sets: true})
	}
	for _, told := range []string{"", "1099511627777", "-1099511627777", "18446744073709551615", "18446744073709551616", "-", "--1", "+1", "x", "1-", "1x", "0x1", "1.0", "\x00", "k", noughts(41), "-" + noughts(41)} {
		for _, k := range kinds {
			for _, letter := range []string{"T", "N"} {
				if strings.Contains(k.tokens, letter) {
					wantReply(t, k.line+" "+letter+told, token, k.skip())
				}
			}
		}
	}
}

// P18.1: the T of an ms tells Exp alone, whatever the line stores and wherever T stands.
func TestTheTOfAnMsSetsNothing(t *testing.T) {
	for mode, op := range map[string]int{"": api.OSet, "MS": api.OSet, "ME": api.OAdd, "MA": api.OAppend, "MP": api.OPrepend, "MR": api.OReplace} {
		for told, exp := range map[string]int{"0": 0, "5": 5, "-5": -5, "1099511627776": 1 << 40} {
			want := api.Cmd{Op: op, Key: "k", Exp: exp, Value: []byte("xy")}
			wantRequest(t, "ms k 2 T"+told+" "+mode, "xy\r\n", form("ms", "k"), want)
			wantRequest(t, "ms k 2 "+mode+" T"+told, "xy\r\n", form("ms", "k"), want)
		}
	}
	wantRequest(t, "ms ! 0 T0", "\r\n", form("ms", "!"), api.Cmd{Op: api.OSet, Key: "!"})
}

// P18.1: of both the last one tells the Exp.
func TestTAndNInBothOrders(t *testing.T) {
	cmd := func(exp int) api.Cmd { return api.Cmd{Op: api.OMeta, Key: "k", Exp: exp, Sets: true, Makes: true} }
	wantRequest(t, "mg k T5 N9", "", form("mg", "k"), cmd(9))
	wantRequest(t, "mg k N9 T5", "", form("mg", "k"), cmd(5))
	wantRequest(t, "mg k T5 N0", "", form("mg", "k"), cmd(0))
	wantRequest(t, "mg k N9 T0", "", form("mg", "k"), cmd(0))
	wantRequest(t, "mg k T-5 v N-9 t", "", answering(form("mg", "k"), "vt"), cmd(-9))
	wantReply(t, "mg k T5 Nx", token, 0)
	wantReply(t, "mg k Nx T5", token, 0)
}

// P18.1
func TestCAndDAndJ(t *testing.T) {
	for told, n := range map[string]uint64{"0": 0, "00": 0, "1": 1, "007": 7, "4294967296": 1 << 32, "9223372036854775808": 1 << 63, "18446744073709551615": 1<<64 - 1, noughts(20) + "18446744073709551615": 1<<64 - 1} {
		wantRequest(t, "ms k 2 C"+told, "xy\r\n", form("ms", "k"), api.Cmd{Op: api.OSet, Key: "k", CAS: n, Value: []byte("xy")})
		wantRequest(t, "ms k 2 MA C"+told, "xy\r\n", form("ms", "k"), api.Cmd{Op: api.OAppend, Key: "k", CAS: n, Value: []byte("xy")})
		wantRequest(t, "md k C"+told, "", form("md", "k"), api.Cmd{Op: api.ODelete, Key: "k", CAS: n})
		wantRequest(t, "md k I C"+told, "", form("md", "k"), api.Cmd{Op: api.OStale, Key: "k", CAS: n})
		wantRequest(t, "ma k C"+told, "", form("ma", "k"), api.Cmd{Op: api.OIncr, Key: "k", Delta: 1, CAS: n})
		wantRequest(t, "ma k D"+told, "", form("ma", "k"), api.Cmd{Op: api.OIncr, Key: "k", Delta: n})
		wantRequest(t, "ma k MD D"+told, "", form("ma", "k"), api.Cmd{Op: api.ODecr, Key: "k", Delta: n})
		wantRequest(t, "ma k J"+told, "", form("ma", "k"), api.Cmd{Op: api.OIncr, Key: "k", Delta: 1, Initial: n})
		wantRequest(t, "ma k N0 J"+told, "", form("ma", "k"), api.Cmd{Op: api.OIncr, Key: "k", Delta: 1, Initial: n, Makes: true})
	}
	for _, told := range []string{"", "18446744073709551616", "18446744073709551617", "99999999999999999999", "-1", "-0", "+1", "x", "1x", "0x1", "1.0", "\x00", noughts(41)} {
		wantReply(t, "ms k 2 C"+told, token, 4)
		wantReply(t, "md k C"+told, token, 0)
		for _, letter := range []string{"C", "D", "J"} {
			wantReply(t, "ma k "+letter+told, token, 0)
			wantReply(t, "ma k MD v "+letter+told, token, 0)
		}
	}
}

// P18.1: each letter of M, and all others.
func TestM(t *testing.T) {
	modes := map[string]map[string]int{
		"ms": {"S": api.OSet, "E": api.OAdd, "A": api.OAppend, "P": api.OPrepend, "R": api.OReplace},
		"ma": {"I": api.OIncr, "+": api.OIncr, "D": api.ODecr, "-": api.ODecr},
	}
	for _, k := range []kind{ms, ma} {
		for c := range 256 {
			letter := string([]byte{byte(c)})
			if c == ' ' || c == '\n' {
				continue
			}
			op, is := modes[k.verb()][letter]
			if !is {
				wantReply(t, k.line+" M"+letter, token, k.skip())
				continue
			}
			cmd := k.cmd
			cmd.Op = op
			wantRequest(t, k.line+" M"+letter, k.body, form(k.verb(), "k"), cmd)
			for _, more := range []string{letter, "x", "S", "I", "\x00", "1"} {
				wantReply(t, k.line+" M"+letter+more, token, k.skip())
			}
		}
		for _, told := range []string{"", "set", "SET", "incr", "Set", "add", "sS", "saI", "\xc3\xa9"} {
			wantReply(t, k.line+" M"+told, token, k.skip())
		}
	}
}

// keyed are lines about a key, with how many bytes are passed over behind an error.
func keyed(key string) map[string]int {
	return map[string]int{"mg " + key: 0, "mg " + key + " v q": 0, "ms " + key + " 2": 4, "ms " + key + " 1000 T5 q": 1002, "md " + key: 0, "md " + key + " I": 0, "ma " + key: 0, "ma " + key + " D5 N3": 0}
}

// P18.1
func TestKeysThatAreNone(t *testing.T) {
	nones := []string{filler(251), filler(252), filler(1000), strings.Repeat("\xc3\xa9", 126)}
	for c := range 256 {
		if c < 32 && c != 10 || c == 127 {
			s := string([]byte{byte(c)})
			nones = append(nones, s+"a", "a"+s+"b")
			if c != 13 {
				nones = append(nones, s, "ab"+s)
			}
		}
	}
	for _, key := range nones {
		for line, skip := range keyed(key) {
			wantReply(t, line, bad, skip)
		}
	}
	wantReply(t, "mg \r", bad, 0)
	wantReply(t, "mg k\r", bad, 0)
}

// P18.1, P18.3: without b a key is what it is told as, also if it is such a text.
func TestKeysOfAllKinds(t *testing.T) {
	keys := []string{"a", filler(2), filler(249), filler(250), strings.Repeat("\xc3\xa9", 125), "\xff\x80", "mg", "q", "b", "0", "-1", "!~", "a\xc2\xa0b", "%s", "YQ==", "YQ=", "AAAA", encoded(filler(100))}
	for c := range 256 {
		if c > 32 && c != 127 {
			keys = append(keys, string([]byte{byte(c)}), "a"+string([]byte{byte(c)}))
		}
	}
	for _, key := range keys {
		wantRequest(t, "mg "+key, "", form("mg", key), api.Cmd{Op: api.OMeta, Key: key})
		wantRequest(t, "md "+key+" q", "", quiet(form("md", key)), api.Cmd{Op: api.ODelete, Key: key})
		wantRequest(t, "ma "+key+" k", "", answering(form("ma", key), "k"), api.Cmd{Op: api.OIncr, Key: key, Delta: 1})
		wantRequest(t, "ms "+key+" 0", "\r\n", form("ms", key), api.Cmd{Op: api.OSet, Key: key})
	}
}

// P18.1, P18.3: with b its bytes are the key, whatever they are.
func TestKeysInBase64(t *testing.T) {
	keys := []string{"a", "ab", "abc", "k", " ", "\n", "\r\n", "a b", "\x00", "\x7f", "\xff\xfe", filler(249), filler(250), strings.Repeat("\x00", 250), strings.Repeat("\n", 250)}
	for c := range 256 {
		keys = append(keys, string([]byte{byte(c)}), string([]byte{byte(c), 'x'}), string([]byte{'x', 'y', byte(c)}))
	}
	for _, key := range keys {
		told := encoded(key)
		f := func(verb, flags string) api.Form {
			f := answering(form(verb, told), flags)
			f.Base64 = true
			return f
		}
		wantRequest(t, "mg "+told+" b", "", f("mg", "b"), api.Cmd{Op: api.OMeta, Key: key})
		wantRequest(t, "mg "+told+" k T5 b", "", f("mg", "kb"), api.Cmd{Op: api.OMeta, Key: key, Exp: 5, Sets: true})
		wantRequest(t, "ms "+told+" 2 b", "xy\r\n", f("ms", "b"), api.Cmd{Op: api.OSet, Key: key, Value: []byte("xy")})
		wantRequest(t, "md "+told+" b I", "", f("md", "b"), api.Cmd{Op: api.OStale, Key: key})
		wantRequest(t, "ma "+told+" q b", "", quiet(f("ma", "b")), api.Cmd{Op: api.OIncr, Key: key, Delta: 1})
	}
}

// P18.1: with b a key must be such a text, and its bytes may not be too many.
func TestKeysThatAreNoBase64(t *testing.T) {
	nones := []string{"k", "kk", "kkk", "YR==", "YQ=", "YQ", "YQ===", "YQ==YQ==", "====", "=", "==", "=YQ=", "Y===", "YWJ=", "YW.=", "YQ\x00=", "-_-_", "YWJj\r\rYW", "\x7f", "\x00\x00\x00\x00", "\xff\xff\xff\xff", "aaaaa", encoded(filler(251)), encoded(filler(252)), encoded(strings.Repeat("\x00", 251)), encoded(filler(1000)), filler(251)}
	for _, told := range nones {
		wantReply(t, "mg "+told+" b", bad, 0)
		wantReply(t, "mg "+told+" v Ox b k", bad, 0)
		wantReply(t, "ms "+told+" 2 b", bad, 4)
		wantReply(t, "ms "+told+" 1001 q b", bad, 1003)
		wantReply(t, "md "+told+" b I", bad, 0)
		wantReply(t, "ma "+told+" D5 b", bad, 0)
	}
	wantReply(t, "mg "+encoded(filler(250))+" v", bad, 0) // without b it is too long
}

// P18.1, P18.2
func TestBytes(t *testing.T) {
	for word, size := range map[string]int{"0": 0, "00": 0, "1": 1, "007": 7, "999": 999, "1000": 1000, noughts(36) + "1000": 1000} {
		value := filler(size)
		for mode, op := range map[string]int{"": api.OSet, " MS": api.OSet, " ME": api.OAdd, " MA": api.OAppend, " MP": api.OPrepend, " MR": api.OReplace} {
			wantRequest(t, "ms k "+word+mode, value+"\r\n", form("ms", "k"), api.Cmd{Op: op, Key: "k", Value: []byte(value)})
		}
		wantRequest(t, "ms k "+word+" q c F7 T5 C4", value+"\r\n", quiet(answering(form("ms", "k"), "c")), api.Cmd{Op: api.OSet, Key: "k", Flags: 7, Exp: 5, CAS: 4, Value: []byte(value)})
	}
	for word, skip := range map[string]int{"1001": 1003, "1002": 1004, "01001": 1003, "4096": 4098, "1073741823": 1<<30 + 1, "1073741824": 1<<30 + 2, noughts(30) + "1073741824": 1<<30 + 2, "1073741825": 0, "2147483648": 0, "4294967296": 0, "4294967297": 0, "9223372036854775807": 0, "9223372036854775808": 0, "18446744073709551615": 0} {
		wantReply(t, "ms k "+word, large, skip)
		wantReply(t, "ms k "+word+" q MA T5", large, skip)
		wantReply(t, "ms \x7f "+word, bad, skip)
		wantReply(t, "ms k "+word+" !", invalid, skip)
		wantReply(t, "ms k "+word+" q q", again, skip)
		wantReply(t, "ms k "+word+" M", token, skip)
		wantReply(t, "ms k "+word+strings.Repeat(" q", 17), many, skip)
	}
	for _, word := range []string{"18446744073709551616", "99999999999999999999", "-1", "-0", "+1", "x", "1x", "0x1", "1.0", "1e3", "\x00", "q", "T5", noughts(41)} {
		wantReply(t, "ms k "+word, bad, 0)
		wantReply(t, "ms k "+word+" q MA T5", bad, 0)
		wantReply(t, "ms \x7f "+word, bad, 0)
		wantReply(t, "ms k "+word+" !", invalid, 0)
		wantReply(t, "ms k "+word+" O", token, 0)
	}
}

// P18.1: the first error that fits.
func TestSeveralErrorsInOneLine(t *testing.T) {
	for line, want := range map[string]struct {
		reply string
		skip  int
	}{
		"mx \x7f ! t t":            {none, 0},
		"ms \x7f":                  {none, 0},
		"mn ! ! t t":               {none, 0},
		"mg k ! t t":               {invalid, 0},
		"mg k t t !":               {again, 0},
		"mg k t ! t":               {invalid, 0},
		"mg k O !":                 {token, 0},
		"mg k ! O":                 {invalid, 0},
		"mg k Tx t t":              {token, 0},
		"mg k t t Tx":              {again, 0},
		"mg k T5 Tx":               {again, 0},
		"mg k Tx T5":               {token, 0},
		"mg k Tx Tx":               {token, 0},
		"mg k t t1":                {invalid, 0},
		"mg k t1 t t":              {invalid, 0},
		"mg \x7f !":                {invalid, 0},
		"mg \x7f t t":              {again, 0},
		"mg \x7f T":                {token, 0},
		"mg k b !":                 {invalid, 0},
		"mg k b b":                 {again, 0},
		"mg k b O":                 {token, 0},
		"mg k b T5":                {bad, 0},
		"ms \x7f x !":              {invalid, 0},
		"ms \x7f 1001 q q":         {again, 1003},
		"ms k 1001 MX":             {token, 1003},
		"ms k x MX":                {token, 0},
		"ms \x7f 1001":             {bad, 1003},
		"ms k 1001 b":              {bad, 1003},
		"ms aw== 1001 b":           {large, 1003},
		"ms aw== x b":              {bad, 0},
		"ms k 5 F4294967296 C":     {token, 7},
		"ms " + filler(251) + " 0": {bad, 2},
		"md \x7f I1":               {invalid, 0},
		"md k I I":                 {again, 0},
		"md k MI":                  {invalid, 0},
		"ma \x7f MS":               {token, 0},
		"ma k D D":                 {token, 0},
		"ma k D1 D":                {again, 0},
	} {
		wantReply(t, line, want.reply, want.skip)
	}
}

// P18.2: what is no command, and what has no BYTES, skips nothing, whatever the third word is.
func TestLinesWithoutABodySkipNothing(t *testing.T) {
	for _, line := range []string{"mx k 5", "MS k 5", "foo k 5", "mn k 5", "k k 5 5 5", "mn 5 5"} {
		wantReply(t, line, none, 0)
	}
	for _, line := range []string{"mg k 5", "md k 5", "ma k 5", "mg k 0", "ma \x7f 5"} {
		wantReply(t, line, invalid, 0)
	}
	wantReply(t, "mg \x7f v", bad, 0)
	wantReply(t, "ma k D5 5", invalid, 0)
	wantReply(t, "ms 5 x 5", invalid, 0)
	wantReply(t, "mg k v"+strings.Repeat(" 5", 17), many, 0)
}

// P18.2: a body that has come in part, or not at all.
func TestBodiesThatAreToCome(t *testing.T) {
	for _, size := range []int{0, 1, 2, 5, 999, 1000} {
		for _, line := range []string{fmt.Sprintf("ms k %d", size), fmt.Sprintf("ms k %d MA q", size), fmt.Sprintf("ms aw== %d T5 b", size)} {
			for _, end := range []string{"\n", "\r\n"} {
				body := filler(size) + "\r\n"
				for n := range body {
					wantMore(t, line+end+body[:n])
				}
				for n := range size + 2 { // a wrong end is told when as many bytes are there
					wantMore(t, line+end+strings.Repeat("\n", n))
				}
			}
		}
	}
}

// P18.2
func TestBodiesWithoutTheirEnd(t *testing.T) {
	for _, size := range []int{0, 1, 2, 999, 1000} {
		for _, line := range []string{fmt.Sprintf("ms k %d", size), fmt.Sprintf("ms k %d MP q", size), fmt.Sprintf("ms aw== %d b C4", size)} {
			for _, end := range []string{"\n", "\r\n"} {
				for _, wrong := range []string{"\n\r", "\n\n", "\r\r", "a\n", "\ra", "xx", "\r\x00", "x\r\n", "\n\r\n", "\r\r\n", "mg a\r\n", "\nmg a\r\n"} {
					b := line + end + filler(size)
					for _, more := range behinds {
						wantStep(t, b+wrong+more, api.Step{E: api.ErrForm, Reply: chunk + "\r\n", Used: len(b), Line: true})
					}
				}
			}
		}
	}
	wantStep(t, "ms k 1\r\nxx\r\n", api.Step{E: api.ErrForm, Reply: chunk + "\r\n", Used: 9, Line: true})
	wantStep(t, "ms k 4\r\nxy\r\nmg a\r\n", api.Step{E: api.ErrForm, Reply: chunk + "\r\n", Used: 12, Line: true})
}

// P18.2: what is in a body is taken for nothing else.
func TestBodiesOfAnyBytes(t *testing.T) {
	for _, value := range []string{"", "\r\n", "\n", "\r", "mg a\r\n", "\r\n\r\n", "\x00\xff\x80", "q", " ", "ms k 1\r\nx\r\n", "EN\r\n"} {
		wantRequest(t, fmt.Sprintf("ms k %d MR", len(value)), value+"\r\n", form("ms", "k"), api.Cmd{Op: api.OReplace, Key: "k", Value: []byte(value)})
	}
	for c := range 256 {
		value := string([]byte{byte(c)})
		wantRequest(t, "ms k 1", value+"\r\n", form("ms", "k"), api.Cmd{Op: api.OSet, Key: "k", Value: []byte(value)})
	}
}

// P18.2: the errors of a line are told ahead of its body.
func TestALinesErrorNeedsNoBody(t *testing.T) {
	for _, behind := range []string{"", "a", "hello\r\n", strings.Repeat("z", 1003)} {
		wantStep(t, "ms k 1001\r\n"+behind, api.Step{E: api.ErrForm, Reply: large + "\r\n", Used: 11, Skip: 1003})
		wantStep(t, "ms k 5 !\r\n"+behind, api.Step{E: api.ErrForm, Reply: invalid + "\r\n", Used: 10, Skip: 7})
	}
}

// R3: what is handed in stays, and what is answered is the caller's own.
func TestNothingIsShared(t *testing.T) {
	const all = "ms aw== 2 b Oab c\r\nxy\r\nmg a v\r\n"
	b := []byte(all)
	p := Parse(b)
	if string(b) != all {
		t.Fatalf("the bytes are %q", b)
	}
	want := Parse([]byte(all))
	for i := range b {
		b[i] = '#'
	}
	if !sameStep(p, want) {
		t.Errorf("behind a change of the bytes: %s; want %s", shown(p), shown(want))
	}
	b = []byte(all)
	p = Parse(b)
	p.Req.Cmds[0].Value[0] = '#'
	_ = append(p.Req.Cmds[0].Value, "#######"...)
	p.Req.Form.Keys[0] = "other"
	p.Req.Form.Tokens[1] = "other"
	_ = append(p.Req.Form.Keys, "more", "more", "more")
	_ = append(p.Req.Form.Tokens, "more", "more", "more")
	if p.Req.Cmds[0].Key != "k" || p.Req.Form.Keys[0] != "other" || p.Req.Form.Tokens[0] != "" {
		t.Errorf("lists that share memory: %s", shown(p))
	}
	if string(b) != all {
		t.Errorf("behind a change of the answer the bytes are %q", b)
	}
	if p := Parse(b); !sameStep(p, want) {
		t.Errorf("parsed anew: %s; want %s", shown(p), shown(want))
	}
}

// R3: bytes behind those that are handed in stay, too.
func TestWhatIsBehindTheBytesStays(t *testing.T) {
	const all = "ms k 2 F7\r\nxy\r\nbehind"
	b := []byte(all)
	p := Parse(b[:15])
	_ = append(p.Req.Cmds[0].Value, "########"...)
	if string(b) != all {
		t.Errorf("the bytes are %q", b)
	}
	if p := Parse(b[:14]); !sameStep(p, api.Step{E: api.ErrMore}) {
		t.Errorf("more than what was handed in was read: %s", shown(p))
	}
}

// wantSound asks what P18.4 says of what has been parsed.
func wantSound(t *testing.T, b string, p api.Step) {
	t.Helper()
	if p.E != api.OK {
		return
	}
	f := p.Req.Form
	sound := len(p.Req.Cmds) == 1 && p.Used <= len(b) && p.Reply == "" && p.Skip == 0 && !p.Line && f.Dialect == api.DMeta && len(f.Tokens) == len(f.Flags)
	for _, c := range p.Req.Cmds {
		sound = sound && c.Exp >= -api.MaxTime && c.Exp <= api.MaxTime && len(c.Value) <= api.MaxValue
		sound = sound && (frame.Keyed(c.Key) && len(f.Keys) == 1 || c.Key == "" && len(f.Keys) == 0 && c.Op == api.ONoop)
		sound = sound && (f.Base64 || c.Op == api.ONoop || frame.Key(c.Key) && c.Key == f.Keys[0])
	}
	for i, token := range f.Tokens {
		sound = sound && (f.Flags[i] == 'O') == (token != "") && len(token) <= api.MaxOpaque
	}
	if !sound {
		t.Errorf("Parse(%.60q) = %s", b, shown(p))
	}
}
