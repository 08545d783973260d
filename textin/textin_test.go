package textin

import (
	"bytes"
	"fmt"
	"slices"
	"strings"
	"testing"

	"buttery/api"
	"buttery/frame"
)

const (
	none  = "ERROR"
	bad   = "CLIENT_ERROR bad command line format"
	delta = "CLIENT_ERROR invalid numeric delta argument"
	chunk = "CLIENT_ERROR bad data chunk"
	long  = "CLIENT_ERROR line too long"
	large = "SERVER_ERROR object too large for cache"
)

// behinds are bytes that may come behind a request.
var behinds = []string{"", "\r", "\n", "\r\n", " ", "x", "get a\r\n", "noreply\r\n", "\x00\xff", strings.Repeat("y", 3000)}

func sameCmd(a, b api.Cmd) bool {
	return a.Op == b.Op && a.Key == b.Key && bytes.Equal(a.Value, b.Value) && a.Flags == b.Flags && a.Exp == b.Exp && a.CAS == b.CAS && a.Delta == b.Delta && a.Initial == b.Initial && a.Makes == b.Makes && a.Sets == b.Sets
}

func sameForm(a, b api.Form) bool {
	return a.Dialect == b.Dialect && a.Verb == b.Verb && a.Code == b.Code && a.Opaque == b.Opaque && a.Quiet == b.Quiet && a.WithCAS == b.WithCAS && a.Flags == b.Flags && slices.Equal(a.Tokens, b.Tokens) && slices.Equal(a.Keys, b.Keys) && a.Base64 == b.Base64
}

func sameStep(a, b api.Step) bool {
	return slices.EqualFunc(a.Req.Cmds, b.Req.Cmds, sameCmd) && sameForm(a.Req.Form, b.Req.Form) && a.Reply == b.Reply && a.Used == b.Used && a.Skip == b.Skip && a.Line == b.Line && a.E == b.E
}

func shown(p api.Step) string {
	s := fmt.Sprintf("%+v", p)
	return s[:min(len(s), 300)]
}

func wantStep(t *testing.T, b string, want api.Step) {
	t.Helper()
	if p := Parse([]byte(b)); !sameStep(p, want) {
		t.Errorf("Parse(%.60q of %d) = %s; want %s", b, len(b), shown(p), shown(want))
	}
}

// wantMore asks for ErrMore alone.
func wantMore(t *testing.T, b string) {
	t.Helper()
	wantStep(t, b, api.Step{E: api.ErrMore})
}

// ends are those that a line may have: a line feed alone would take a carriage return at its end away from it.
func ends(line string) []string {
	if strings.HasSuffix(line, "\r") {
		return []string{"\r\n"}
	}
	return []string{"\n", "\r\n"}
}

// wantReply asks for the error of a line, with either end and whatever comes behind.
func wantReply(t *testing.T, line, reply string, skip int) {
	t.Helper()
	for _, end := range ends(line) {
		for _, more := range behinds {
			wantStep(t, line+end+more, api.Step{E: api.ErrForm, Reply: reply + "\r\n", Used: len(line + end), Skip: skip})
		}
	}
}

// wantRequest asks for the request of a line and, with a body, of that one, with either end of the line and whatever comes behind.
func wantRequest(t *testing.T, line, body string, form api.Form, cmds ...api.Cmd) {
	t.Helper()
	form.Dialect = api.DText
	for _, end := range ends(line) {
		b := line + end + body
		for _, more := range behinds {
			wantStep(t, b+more, api.Step{Req: api.Request{Cmds: cmds, Form: form}, Used: len(b)})
		}
	}
}

// form is that of a verb and some keys.
func form(verb string, keys ...string) api.Form { return api.Form{Verb: verb, Keys: keys} }

// quiet is a form that wants no answer, counted is one that wants a CAS.
func quiet(f api.Form) api.Form {
	f.Quiet = true
	return f
}

func counted(f api.Form) api.Form {
	f.WithCAS = true
	return f
}

func noughts(n int) string { return strings.Repeat("0", n) }

// filler is so many bytes, all of which a key may have.
func filler(size int) string {
	b := make([]byte, size)
	for i := range b {
		b[i] = byte('a' + i%26)
	}
	return string(b)
}

// many are so many keys.
func many(n int) []string {
	var keys []string
	for i := range n {
		keys = append(keys, fmt.Sprint("k", i))
	}
	return keys
}

func each(op, exp int, keys ...string) []api.Cmd {
	var cmds []api.Cmd
	for _, k := range keys {
		cmds = append(cmds, api.Cmd{Op: op, Key: k, Exp: exp})
	}
	return cmds
}

// storing are the verbs with a body, but for cas.
var storing = []struct {
	verb string
	op   int
}{{"set", api.OSet}, {"add", api.OAdd}, {"replace", api.OReplace}, {"append", api.OAppend}, {"prepend", api.OPrepend}}

// table is a line for each of P14.1's, with its body and its command; may is whether noreply may stand behind it.
var table = []struct {
	line, body string
	cmd        api.Cmd
	may        bool
}{
	{"set k 7 5 2", "xy\r\n", api.Cmd{Op: api.OSet, Key: "k", Flags: 7, Exp: 5, Value: []byte("xy")}, true},
	{"add k 7 5 2", "xy\r\n", api.Cmd{Op: api.OAdd, Key: "k", Flags: 7, Exp: 5, Value: []byte("xy")}, true},
	{"replace k 7 5 2", "xy\r\n", api.Cmd{Op: api.OReplace, Key: "k", Flags: 7, Exp: 5, Value: []byte("xy")}, true},
	{"append k 7 5 2", "xy\r\n", api.Cmd{Op: api.OAppend, Key: "k", Flags: 7, Exp: 5, Value: []byte("xy")}, true},
	{"prepend k 7 5 2", "xy\r\n", api.Cmd{Op: api.OPrepend, Key: "k", Flags: 7, Exp: 5, Value: []byte("xy")}, true},
	{"cas k 7 5 2 9", "xy\r\n", api.Cmd{Op: api.OSet, Key: "k", Flags: 7, Exp: 5, Value: []byte("xy"), CAS: 9}, true},
	{"delete k", "", api.Cmd{Op: api.ODelete, Key: "k"}, true},
	{"incr k 3", "", api.Cmd{Op: api.OIncr, Key: "k", Delta: 3}, true},
	{"decr k 3", "", api.Cmd{Op: api.ODecr, Key: "k", Delta: 3}, true},
	{"touch k 5", "", api.Cmd{Op: api.OTouch, Key: "k", Exp: 5}, true},
	{"flush_all", "", api.Cmd{Op: api.OFlush}, true},
	{"flush_all 5", "", api.Cmd{Op: api.OFlush, Exp: 5}, true},
	{"version", "", api.Cmd{Op: api.OVersion}, false},
	{"quit", "", api.Cmd{Op: api.OQuit}, false},
	{"get k", "", api.Cmd{Op: api.OGet, Key: "k"}, false},
	{"gets k", "", api.Cmd{Op: api.OGet, Key: "k"}, false},
	{"gat 5 k", "", api.Cmd{Op: api.OGat, Key: "k", Exp: 5}, false},
	{"gats 5 k", "", api.Cmd{Op: api.OGat, Key: "k", Exp: 5}, false},
}

// formOf is the form that a line of the table has.
func formOf(line string, cmd api.Cmd) api.Form {
	f := form(strings.Fields(line)[0])
	if cmd.Key != "" {
		f.Keys = []string{cmd.Key}
	}
	f.WithCAS = f.Verb == "gets" || f.Verb == "gats"
	return f
}

// P14.1 to P14.3: the chapter's examples.
func TestTheExamples(t *testing.T) {
	wantRequest(t, "get a b", "", form("get", "a", "b"), each(api.OGet, 0, "a", "b")...)
	wantRequest(t, "set k 1 0 2", "xy\r\n", form("set", "k"), api.Cmd{Op: api.OSet, Key: "k", Flags: 1, Value: []byte("xy")})
	wantReply(t, "get", none, 0)
}

// P14.1
func TestEveryLineOfTheTable(t *testing.T) {
	for _, c := range table {
		wantRequest(t, c.line, c.body, formOf(c.line, c.cmd), c.cmd)
	}
}

// P14.1: blanks between words, ahead of them and behind them play no part.
func TestBlanksBetweenWords(t *testing.T) {
	for _, c := range table {
		line := "  " + strings.ReplaceAll(c.line, " ", "   ") + "  "
		wantRequest(t, line, c.body, formOf(c.line, c.cmd), c.cmd)
	}
}

// P14.3
func TestOneWordFewer(t *testing.T) {
	for _, c := range table {
		words := strings.Fields(c.line)
		if c.line == "flush_all 5" {
			continue
		}
		for n := range words {
			wantReply(t, strings.Join(words[:n], " "), none, 0)
		}
	}
}

// P14.3
func TestOneWordMore(t *testing.T) {
	for _, c := range table {
		if strings.HasPrefix(c.line, "g") || c.line == "flush_all" {
			continue
		}
		for _, more := range []string{" x", " 0", " 5", " norepl", " noreply1", " noreplyx", " x noreply", " noreply x", " noreply noreply", " 1 2 3"} {
			wantReply(t, c.line+more, none, 0)
		}
	}
	for _, line := range []string{"version noreply", "quit noreply", "version 1", "quit 0 noreply"} {
		wantReply(t, line, none, 0)
	}
}

// P14.1, P14.3: first words that are none.
func TestNoSuchFirstWord(t *testing.T) {
	verbs := map[string]bool{}
	for _, c := range table {
		verbs[strings.Fields(c.line)[0]] = true
	}
	for _, c := range table {
		verb, rest, _ := strings.Cut(c.line, " ")
		others := []string{strings.ToUpper(verb), strings.ToUpper(verb[:1]) + verb[1:], verb + "s", verb + "\x00", verb + "\t", verb + "\r", verb + ":", verb + "_", "\x00" + verb, verb + verb, "\xff" + verb}
		for n := range verb {
			others = append(others, verb[:n])
		}
		for _, other := range others {
			if verbs[other] || other == "" {
				continue
			}
			wantReply(t, other+" "+rest, none, 0)
			wantReply(t, other, none, 0)
		}
	}
	for _, line := range []string{"x", "nothing", "foo a b", "stats", "verbosity 1", "mg k", "mn", "noreply", "k", "5", "getk", "\x00", "\t", "\r", "\tget k", "get\tk", "\x80", "flush", "flush-all", "cas_", "gads 5 k", "flush_al l", "foo k 0 0 5", "SET k 0 0 5", "foo \x7f x x 5"} {
		wantReply(t, line, none, 0)
	}
}

// P14.3: no word.
func TestNoWord(t *testing.T) {
	for _, blanks := range []int{0, 1, 2, 3, 100, 2048} {
		wantReply(t, strings.Repeat(" ", blanks), none, 0)
	}
}

// P14.1
func TestLinesWithoutTheirEnd(t *testing.T) {
	wantMore(t, "")
	if p := Parse(nil); !sameStep(p, api.Step{E: api.ErrMore}) {
		t.Errorf("Parse(nil) = %s", shown(p))
	}
	for _, b := range []string{" ", "x", "get", "get a", "get a\r", "nothing", "\r", "   ", "set k 0 0 1001", "incr k x", "\x00\xff", "get \x7f"} {
		wantMore(t, b)
	}
	for _, c := range table {
		for n := range c.line {
			wantMore(t, c.line[:n])
		}
		wantMore(t, c.line)
		wantMore(t, c.line+"\r")
	}
	for _, size := range []int{1000, 2047, 2048, 2049} {
		wantMore(t, strings.Repeat("a", size))
		wantMore(t, strings.Repeat(" ", size))
		wantMore(t, strings.Repeat("a", size-1)+"\r")
	}
}

// P14.1
func TestLinesThatAreTooLong(t *testing.T) {
	for _, sign := range []string{"a", " ", "\x00", "\r", "\xff"} {
		for _, size := range []int{2050, 2051, 2052, 4096, 16384, 100000} {
			b := strings.Repeat(sign, size)
			wantStep(t, b, api.Step{E: api.ErrForm, Reply: long + "\r\n", Used: size, Line: true})
			for _, more := range behinds {
				wantStep(t, b+"\n"+more, api.Step{E: api.ErrForm, Reply: long + "\r\n", Used: size + 1})
				wantStep(t, b+"\r\n"+more, api.Step{E: api.ErrForm, Reply: long + "\r\n", Used: size + 2})
			}
		}
	}
	b := "set k 0 0 5" + strings.Repeat(" ", 2049-11)
	wantStep(t, b+"\nhello\r\n", api.Step{E: api.ErrForm, Reply: long + "\r\n", Used: 2050})
	wantStep(t, b+"\r\nhello\r\n", api.Step{E: api.ErrForm, Reply: long + "\r\n", Used: 2051})
	wantStep(t, b+" ", api.Step{E: api.ErrForm, Reply: long + "\r\n", Used: 2050, Line: true})
	wantMore(t, b)
}

// P14.1
func TestTheLongestLine(t *testing.T) {
	line := "set k 7 0 2" + strings.Repeat(" ", 2048-11)
	wantRequest(t, line, "xy\r\n", form("set", "k"), api.Cmd{Op: api.OSet, Key: "k", Flags: 7, Value: []byte("xy")})
	line = "get" + strings.Repeat(" ", 2044) + "k"
	wantRequest(t, line, "", form("get", "k"), api.Cmd{Op: api.OGet, Key: "k"})
	wantReply(t, strings.Repeat("a", 2048), none, 0)
}

// P14.2
func TestNoreplyWhereItMayStand(t *testing.T) {
	for _, c := range table {
		if c.may {
			wantRequest(t, c.line+" noreply", c.body, quiet(formOf(c.line, c.cmd)), c.cmd)
			wantRequest(t, c.line+"   noreply ", c.body, quiet(formOf(c.line, c.cmd)), c.cmd)
		}
	}
}

// P14.2, P14.3
func TestNoreplyThatIsNone(t *testing.T) {
	for _, c := range table {
		if !c.may || c.line == "flush_all" {
			continue
		}
		for _, word := range []string{"NOREPLY", "Noreply", "noReply", "no", "noreply\t", "noreply\x00", "reply", "noreply\r"} {
			wantReply(t, c.line+" "+word, none, 0)
		}
		wantReply(t, c.line+" noreply noreply", none, 0)
		wantReply(t, c.line+" noreply NOREPLY", none, 0)
		wantReply(t, strings.Replace(c.line, " ", " noreply ", 1)+" 1", none, 0)
	}
}

// P14.2: noreply where a word of the table stands is that word.
func TestNoreplyAsAnotherWord(t *testing.T) {
	wantRequest(t, "delete noreply", "", form("delete", "noreply"), api.Cmd{Op: api.ODelete, Key: "noreply"})
	wantRequest(t, "delete noreply noreply", "", quiet(form("delete", "noreply")), api.Cmd{Op: api.ODelete, Key: "noreply"})
	wantRequest(t, "incr noreply 1", "", form("incr", "noreply"), api.Cmd{Op: api.OIncr, Key: "noreply", Delta: 1})
	wantRequest(t, "touch noreply 1 noreply", "", quiet(form("touch", "noreply")), api.Cmd{Op: api.OTouch, Key: "noreply", Exp: 1})
	wantRequest(t, "set noreply 0 0 1", "x\r\n", form("set", "noreply"), api.Cmd{Op: api.OSet, Key: "noreply", Value: []byte("x")})
	wantRequest(t, "cas noreply 0 0 1 2 noreply", "x\r\n", quiet(form("cas", "noreply")), api.Cmd{Op: api.OSet, Key: "noreply", Value: []byte("x"), CAS: 2})
	wantRequest(t, "get noreply", "", form("get", "noreply"), each(api.OGet, 0, "noreply")...)
	wantRequest(t, "get k noreply", "", form("get", "k", "noreply"), each(api.OGet, 0, "k", "noreply")...)
	wantRequest(t, "gets noreply noreply", "", counted(form("gets", "noreply", "noreply")), each(api.OGet, 0, "noreply", "noreply")...)
	wantRequest(t, "gat 5 noreply", "", form("gat", "noreply"), each(api.OGat, 5, "noreply")...)
	wantRequest(t, "gats 5 k noreply", "", counted(form("gats", "k", "noreply")), each(api.OGat, 5, "k", "noreply")...)
	wantReply(t, "gat noreply k", bad, 0)
	wantReply(t, "set k 0 0 noreply", bad, 0)
	wantReply(t, "set k 0 noreply 3", bad, 5)
	wantReply(t, "set k noreply 0 3", bad, 5)
	wantReply(t, "cas k 0 0 1 noreply", bad, 3)
	wantReply(t, "incr k noreply", delta, 0)
	wantReply(t, "decr k noreply", delta, 0)
	wantReply(t, "touch k noreply", bad, 0)
	for _, line := range []string{"noreply", "delete", "get", "set noreply", "set k 0 noreply", "incr noreply", "touch noreply", "gat noreply"} {
		wantReply(t, line, none, 0)
	}
}

// P14.1 to P14.3
func TestFlushAll(t *testing.T) {
	for line, exp := range map[string]int{"": 0, " 0": 0, " -0": 0, " 5": 5, " -5": -5, " 007": 7, " 1099511627776": 1 << 40, " -1099511627776": -1 << 40} {
		wantRequest(t, "flush_all"+line, "", form("flush_all"), api.Cmd{Op: api.OFlush, Exp: exp})
		wantRequest(t, "flush_all"+line+" noreply", "", quiet(form("flush_all")), api.Cmd{Op: api.OFlush, Exp: exp})
	}
	for _, word := range []string{"x", "NOREPLY", "noreply1", "-", "+5", "5x", "1099511627777", "-1099511627777", "noreply\t", "5.0"} {
		wantReply(t, "flush_all "+word, bad, 0)
		wantReply(t, "flush_all "+word+" noreply", bad, 0)
	}
	wantReply(t, "flush_all noreply noreply", bad, 0)
	for _, words := range []string{"5 5", "5 x", "5 NOREPLY", "noreply 5", "noreply x", "x y", "5 noreply noreply", "5 5 noreply", "noreply noreply noreply", "a b c 5", "a b c 5 noreply"} {
		wantReply(t, "flush_all "+words, none, 0)
	}
}

// keyed are lines about a key.
func keyed(key string) map[string]string {
	lines := map[string]string{}
	for _, line := range []string{"get K", "gets K", "gat 5 K", "gats 5 K", "delete K", "delete K noreply", "incr K 3", "decr K 3 noreply", "touch K 5"} {
		lines[line] = strings.Replace(line, "K", key, 1)
	}
	return lines
}

// P14.3
func TestKeysThatAreNone(t *testing.T) {
	nones := []string{filler(251), filler(252), filler(1000), strings.Repeat("\xc3\xa9", 126)}
	for c := range 256 {
		if c < 32 && c != 10 || c == 127 {
			s := string([]byte{byte(c)})
			nones = append(nones, s, s+"a", "a"+s+"b", "ab"+s)
		}
	}
	for _, key := range nones {
		for _, line := range keyed(key) {
			wantReply(t, line, bad, 0)
		}
		wantReply(t, "get a "+key+" b", bad, 0)
		wantReply(t, "get "+key+" a b", bad, 0)
		wantReply(t, "gats 5 a b "+key+" c", bad, 0)
		for _, s := range storing {
			wantReply(t, s.verb+" "+key+" 7 5 2", bad, 4)
			wantReply(t, s.verb+" "+key+" 7 5 2 noreply", bad, 4)
		}
		wantReply(t, "cas "+key+" 7 5 2 9", bad, 4)
	}
}

// P14.1, P14.3
func TestKeysOfAllKinds(t *testing.T) {
	keys := []string{"a", filler(2), filler(249), filler(250), strings.Repeat("\xc3\xa9", 125), "\xff\x80", "get", "0", "-1", "!~", "a\xc2\xa0b", "%s", "0x"}
	for c := range 256 {
		if c > 32 && c != 127 {
			keys = append(keys, string([]byte{byte(c)}), "a"+string([]byte{byte(c)}))
		}
	}
	for _, key := range keys {
		lines := keyed(key)
		wantRequest(t, lines["get K"], "", form("get", key), api.Cmd{Op: api.OGet, Key: key})
		wantRequest(t, lines["gats 5 K"], "", counted(form("gats", key)), api.Cmd{Op: api.OGat, Key: key, Exp: 5})
		wantRequest(t, lines["delete K noreply"], "", quiet(form("delete", key)), api.Cmd{Op: api.ODelete, Key: key})
		wantRequest(t, lines["incr K 3"], "", form("incr", key), api.Cmd{Op: api.OIncr, Key: key, Delta: 3})
		wantRequest(t, lines["touch K 5"], "", form("touch", key), api.Cmd{Op: api.OTouch, Key: key, Exp: 5})
		wantRequest(t, "add "+key+" 1 2 0", "\r\n", form("add", key), api.Cmd{Op: api.OAdd, Key: key, Flags: 1, Exp: 2})
	}
}

// P14.1 to P14.3
func TestSomeNumbersOfKeys(t *testing.T) {
	for _, n := range []int{1, 2, 3, 4, 5, 15, 16} {
		keys := many(n)
		line := strings.Join(keys, " ")
		wantRequest(t, "get "+line, "", form("get", keys...), each(api.OGet, 0, keys...)...)
		wantRequest(t, "gets "+line, "", counted(form("gets", keys...)), each(api.OGet, 0, keys...)...)
		wantRequest(t, "gat -7 "+line, "", form("gat", keys...), each(api.OGat, -7, keys...)...)
		wantRequest(t, "gats 9 "+line, "", counted(form("gats", keys...)), each(api.OGat, 9, keys...)...)
	}
	for _, n := range []int{17, 18, 100} {
		line := strings.Join(many(n), " ")
		wantReply(t, "get "+line, bad, 0)
		wantReply(t, "gets "+line, bad, 0)
		wantReply(t, "gat -7 "+line, bad, 0)
		wantReply(t, "gats 9 "+line, bad, 0)
	}
	for _, line := range []string{"get", "gets", "gat", "gats", "gat 5", "gats 5", "gat x", "gats k", "get ", "gat 5  "} {
		wantReply(t, line, none, 0)
	}
	same := strings.Split(strings.Repeat("k ", 15)+"k", " ") // the same key again and again
	wantRequest(t, "get "+strings.Join(same, " "), "", form("get", same...), each(api.OGet, 0, same...)...)
	wantReply(t, "get k "+strings.Join(same, " "), bad, 0)
	wantReply(t, "get"+strings.Repeat(" k", 1022), bad, 0) // as many as a line may have
}

// P14.3, P14.4: the fifth word of a line without BYTES is no number of bytes.
func TestLinesWithoutABodySkipNothing(t *testing.T) {
	wantReply(t, "get a b c 5 \x7f", bad, 0)
	wantReply(t, "get \x7f b c 5", bad, 0)
	wantReply(t, "gets 5 5 5 5 5 5 5 5 5 5 5 5 5 5 5 5 5", bad, 0)
	wantReply(t, "gat x b c 5", bad, 0)
	wantReply(t, "gats 1 2 3 4 \x00", bad, 0)
}

// P14.1, P14.3
func TestFlags(t *testing.T) {
	for word, flags := range map[string]uint32{"0": 0, "00": 0, "1": 1, "007": 7, "65536": 65536, "2147483648": 1 << 31, "4294967295": 1<<32 - 1, noughts(30) + "4294967295": 1<<32 - 1} {
		for _, s := range storing {
			wantRequest(t, s.verb+" k "+word+" 0 1", "x\r\n", form(s.verb, "k"), api.Cmd{Op: s.op, Key: "k", Flags: flags, Value: []byte("x")})
		}
		wantRequest(t, "cas k "+word+" 0 1 4", "x\r\n", form("cas", "k"), api.Cmd{Op: api.OSet, Key: "k", Flags: flags, Value: []byte("x"), CAS: 4})
	}
	for _, word := range []string{"4294967296", "4294967297", "18446744073709551615", "18446744073709551616", "-1", "-0", "+1", "x", "1x", "0x1", "1.0", "1e3", "1_0", noughts(41), "\x00", "k", "noreply"} {
		for _, s := range storing {
			wantReply(t, s.verb+" k "+word+" 0 1", bad, 3)
		}
		wantReply(t, "cas k "+word+" 0 1 4", bad, 3)
	}
}

// P14.1, P14.3
func TestExp(t *testing.T) {
	for word, exp := range map[string]int{"0": 0, "-0": 0, "00": 0, "1": 1, "-1": -1, "007": 7, "-007": -7, "2592000": 2592000, "2592001": 2592001, "1099511627775": 1<<40 - 1, "1099511627776": 1 << 40, "-1099511627776": -1 << 40, noughts(27) + "1099511627776": 1 << 40} {
		for _, s := range storing {
			wantRequest(t, s.verb+" k 7 "+word+" 1", "x\r\n", form(s.verb, "k"), api.Cmd{Op: s.op, Key: "k", Flags: 7, Exp: exp, Value: []byte("x")})
		}
		wantRequest(t, "cas k 7 "+word+" 1 4 noreply", "x\r\n", quiet(form("cas", "k")), api.Cmd{Op: api.OSet, Key: "k", Flags: 7, Exp: exp, Value: []byte("x"), CAS: 4})
		wantRequest(t, "touch k "+word, "", form("touch", "k"), api.Cmd{Op: api.OTouch, Key: "k", Exp: exp})
		wantRequest(t, "gat "+word+" a b", "", form("gat", "a", "b"), each(api.OGat, exp, "a", "b")...)
		wantRequest(t, "gats "+word+" a", "", counted(form("gats", "a")), each(api.OGat, exp, "a")...)
	}
	for _, word := range []string{"1099511627777", "-1099511627777", "18446744073709551615", "18446744073709551616", "-", "--1", "+1", "x", "1-", "1x", "0x1", "1.0", "\x00", "k", noughts(41), "-" + noughts(41)} {
		for _, s := range storing {
			wantReply(t, s.verb+" k 7 "+word+" 1", bad, 3)
		}
		wantReply(t, "cas k 7 "+word+" 1 4 noreply", bad, 3)
		wantReply(t, "touch k "+word, bad, 0)
		wantReply(t, "touch k "+word+" noreply", bad, 0)
		wantReply(t, "gat "+word+" a b", bad, 0)
		wantReply(t, "gats "+word+" a", bad, 0)
	}
}

// P14.1, P14.3, P14.4
func TestBytes(t *testing.T) {
	for word, size := range map[string]int{"0": 0, "00": 0, "1": 1, "007": 7, "999": 999, "1000": 1000, noughts(36) + "1000": 1000} {
		value := filler(size)
		for _, s := range storing {
			wantRequest(t, s.verb+" k 7 5 "+word, value+"\r\n", form(s.verb, "k"), api.Cmd{Op: s.op, Key: "k", Flags: 7, Exp: 5, Value: []byte(value)})
		}
		wantRequest(t, "cas k 7 5 "+word+" 4", value+"\r\n", form("cas", "k"), api.Cmd{Op: api.OSet, Key: "k", Flags: 7, Exp: 5, Value: []byte(value), CAS: 4})
	}
	for word, skip := range map[string]int{"1001": 1003, "1002": 1004, "01001": 1003, "4096": 4098, "1073741823": 1<<30 + 1, "1073741824": 1<<30 + 2, noughts(30) + "1073741824": 1<<30 + 2, "1073741825": 0, "2147483648": 0, "4294967296": 0, "4294967297": 0, "9223372036854775807": 0, "9223372036854775808": 0, "18446744073709551615": 0} {
		for _, s := range storing {
			wantReply(t, s.verb+" k 7 5 "+word, large, skip)
			wantReply(t, s.verb+" k 7 5 "+word+" noreply", large, skip)
		}
		wantReply(t, "cas k 7 5 "+word+" 4", large, skip)
		wantReply(t, "cas k 7 5 "+word+" 4 noreply", large, skip)
	}
	for _, word := range []string{"18446744073709551616", "99999999999999999999", "-1", "-0", "+1", "x", "1x", "0x1", "1.0", "1e3", "\x00", "noreply", noughts(41)} {
		for _, s := range storing {
			wantReply(t, s.verb+" k 7 5 "+word, bad, 0)
			wantReply(t, s.verb+" k 7 5 "+word+" noreply", bad, 0)
		}
		wantReply(t, "cas k 7 5 "+word+" 4", bad, 0)
	}
}

// P14.1, P14.3
func TestCASAndDelta(t *testing.T) {
	for word, n := range map[string]uint64{"0": 0, "00": 0, "1": 1, "007": 7, "4294967296": 1 << 32, "9223372036854775808": 1 << 63, "18446744073709551615": 1<<64 - 1, noughts(20) + "18446744073709551615": 1<<64 - 1} {
		wantRequest(t, "cas k 7 5 1 "+word, "x\r\n", form("cas", "k"), api.Cmd{Op: api.OSet, Key: "k", Flags: 7, Exp: 5, Value: []byte("x"), CAS: n})
		wantRequest(t, "incr k "+word, "", form("incr", "k"), api.Cmd{Op: api.OIncr, Key: "k", Delta: n})
		wantRequest(t, "decr k "+word, "", form("decr", "k"), api.Cmd{Op: api.ODecr, Key: "k", Delta: n})
	}
	for _, word := range []string{"18446744073709551616", "18446744073709551617", "99999999999999999999", "-1", "-0", "+1", "x", "1x", "0x1", "1.0", "\x00", noughts(41)} {
		for _, q := range []string{"", " noreply"} {
			wantReply(t, "cas k 7 5 1 "+word+q, bad, 3)
			wantReply(t, "incr k "+word+q, delta, 0)
			wantReply(t, "decr k "+word+q, delta, 0)
		}
	}
}

// P14.3: the first error that fits.
func TestSeveralErrorsInOneLine(t *testing.T) {
	for line, want := range map[string]struct {
		reply string
		skip  int
	}{
		"set \x7f x x x x":                        {none, 0},
		"set \x7f x x 5 x":                        {none, 0},
		"set k 0 0 1001 x":                        {none, 0},
		"set k 0 0 1001 noreply noreply":          {none, 0},
		"SET \x7f x x 1001":                       {none, 0},
		"incr \x7f x x":                           {none, 0},
		"incr k x x":                              {none, 0},
		"cas k 0 0 1001":                          {none, 0},
		"cas k 0 0 x":                             {none, 0},
		"touch \x7f":                              {none, 0},
		"incr \x7f":                               {none, 0},
		"gat x":                                   {none, 0},
		"incr \x7f x":                             {bad, 0},
		"incr \x7f x noreply":                     {bad, 0},
		"decr " + filler(251) + " -1":             {bad, 0},
		"touch \x7f x":                            {bad, 0},
		"set \x7f x x x":                          {bad, 0},
		"set \x7f 0 0 1001":                       {bad, 1003},
		"set k x 0 1001":                          {bad, 1003},
		"set k 0 x 1001 noreply":                  {bad, 1003},
		"set k 4294967296 0 1073741824":           {bad, 1<<30 + 2},
		"set k 4294967296 0 1073741825":           {bad, 0},
		"set " + filler(251) + " 0 0 1000":        {bad, 1002},
		"set \x7f x x 0":                          {bad, 2},
		"cas k 0 0 1001 x":                        {bad, 1003},
		"cas k 0 0 1001 noreply":                  {bad, 1003},
		"cas k 0 0 x x":                           {bad, 0},
		"cas k 0 0 -1 5":                          {bad, 0},
		"cas \x7f 0 0 12 18446744073709551616":    {bad, 14},
		"cas k 0 0 18446744073709551616 5":        {bad, 0},
		"cas k 0 0 1073741825 x":                  {bad, 0},
		"gat x \x7f":                              {bad, 0},
		"gat x " + strings.Join(many(17), " "):    {bad, 0},
		"get \x7f " + strings.Join(many(16), " "): {bad, 0},
	} {
		wantReply(t, line, want.reply, want.skip)
	}
}

// P14.3, P14.4: ERROR skips nothing, whatever the fifth word is.
func TestERRORSkipsNothing(t *testing.T) {
	for _, line := range []string{"foo k 0 0 5", "foo k 0 0 1001", "set k 0 0 5 x", "set k 0 0 1001 x", "add k 0 0 5 NOREPLY", "cas k 0 0 5", "cas k 0 0 5 1 x", "cas k 0 0 5 1 noreply noreply", "delete k 0 0 5", "incr k 1 0 5", "touch k 0 0 5", "flush_all 0 0 0 5", "version 0 0 0 5", "quit 0 0 0 5", "SET k 0 0 5 noreply", "x 0 0 0 0"} {
		wantReply(t, line, none, 0)
	}
}

// P14.4: a body that has come in part, or not at all.
func TestBodiesThatAreToCome(t *testing.T) {
	for _, size := range []int{0, 1, 2, 5, 999, 1000} {
		for _, line := range []string{fmt.Sprintf("set k 7 5 %d", size), fmt.Sprintf("append k 7 5 %d noreply", size), fmt.Sprintf("cas k 7 5 %d 4", size)} {
			for _, end := range []string{"\n", "\r\n"} {
				whole := filler(size) + "\r\n"
				for n := range whole {
					wantMore(t, line+end+whole[:n])
				}
				for n := range size + 2 { // a wrong end is told when as many bytes are there
					wantMore(t, line+end+strings.Repeat("\n", n))
				}
			}
		}
	}
}

// P14.4
func TestBodiesWithoutTheirEnd(t *testing.T) {
	for _, size := range []int{0, 1, 2, 999, 1000} {
		for _, line := range []string{fmt.Sprintf("set k 7 5 %d", size), fmt.Sprintf("prepend k 7 5 %d noreply", size), fmt.Sprintf("cas k 7 5 %d 4", size)} {
			for _, end := range []string{"\n", "\r\n"} {
				for _, wrong := range []string{"\n\r", "\n\n", "\r\r", "a\n", "\ra", "xx", "\r\x00", "x\r\n", "\n\r\n", "\r\r\n", "get a\r\n", "\nget a\r\n"} {
					b := line + end + filler(size)
					for _, more := range behinds {
						wantStep(t, b+wrong+more, api.Step{E: api.ErrForm, Reply: chunk + "\r\n", Used: len(b), Line: true})
					}
				}
			}
		}
	}
	wantStep(t, "set k 0 0 1\r\nxx\r\n", api.Step{E: api.ErrForm, Reply: chunk + "\r\n", Used: 14, Line: true})
	wantStep(t, "set k 0 0 4\r\nxy\r\nget a\r\n", api.Step{E: api.ErrForm, Reply: chunk + "\r\n", Used: 17, Line: true})
}

// P14.4: what is in a body is taken for nothing else.
func TestBodiesOfAnyBytes(t *testing.T) {
	for _, value := range []string{"", "\r\n", "\n", "\r", "get a\r\n", "\r\n\r\n", "\x00\xff\x80", "noreply", " ", "set k 0 0 1\r\nx\r\n", "END\r\n"} {
		line := fmt.Sprintf("replace k 0 0 %d", len(value))
		wantRequest(t, line, value+"\r\n", form("replace", "k"), api.Cmd{Op: api.OReplace, Key: "k", Value: []byte(value)})
	}
	for c := range 256 {
		value := string([]byte{byte(c)})
		wantRequest(t, "set k 0 0 1", value+"\r\n", form("set", "k"), api.Cmd{Op: api.OSet, Key: "k", Value: []byte(value)})
	}
}

// P14.4: the errors of a line are told ahead of its body.
func TestALinesErrorNeedsNoBody(t *testing.T) {
	for _, behind := range []string{"", "a", "hello\r\n", strings.Repeat("z", 1003)} {
		wantStep(t, "set k 0 0 1001\r\n"+behind, api.Step{E: api.ErrForm, Reply: large + "\r\n", Used: 16, Skip: 1003})
		wantStep(t, "set k 0 x 5\r\n"+behind, api.Step{E: api.ErrForm, Reply: bad + "\r\n", Used: 13, Skip: 7})
	}
}

// R3: what is handed in stays, and what is answered is the caller's own.
func TestNothingIsShared(t *testing.T) {
	const all = "set k 7 5 2 noreply\r\nxy\r\nget a\r\n"
	b := []byte(all)
	p := Parse(b)
	if string(b) != all {
		t.Fatalf("the bytes are %q", b)
	}
	want := Parse([]byte(all))
	for i := range b {
		b[i] = '#'
	}
	if !sameStep(p, want) {
		t.Errorf("behind a change of the bytes: %s; want %s", shown(p), shown(want))
	}
	b = []byte(all)
	p = Parse(b)
	p.Req.Cmds[0].Value[0] = '#'
	_ = append(p.Req.Cmds[0].Value, "#######"...)
	p.Req.Form.Keys[0] = "other"
	_ = append(p.Req.Form.Keys, "more", "more", "more")
	if p.Req.Cmds[0].Key != "k" {
		t.Errorf("the command's key is %q", p.Req.Cmds[0].Key)
	}
	if string(b) != all {
		t.Errorf("behind a change of the answer the bytes are %q", b)
	}
	if p := Parse(b); !sameStep(p, want) {
		t.Errorf("parsed anew: %s; want %s", shown(p), shown(want))
	}
	p = Parse([]byte("get a b\n"))
	p.Req.Form.Keys[1] = "c"
	p.Req.Cmds[0].Key = "d"
	if p.Req.Cmds[1].Key != "b" || p.Req.Form.Keys[0] != "a" {
		t.Errorf("lists that share memory: %s", shown(p))
	}
}

// R3: bytes behind those that are handed in stay, too.
func TestWhatIsBehindTheBytesStays(t *testing.T) {
	const all = "set k 7 5 2\r\nxy\r\nbehind"
	b := []byte(all)
	p := Parse(b[:17])
	_ = append(p.Req.Cmds[0].Value, "########"...)
	if string(b) != all {
		t.Errorf("the bytes are %q", b)
	}
	if p := Parse(b[:16]); !sameStep(p, api.Step{E: api.ErrMore}) {
		t.Errorf("more than what was handed in was read: %s", shown(p))
	}
}

// wantSound asks what P14.5 says of what has been parsed.
func wantSound(t *testing.T, b string, p api.Step) {
	t.Helper()
	if p.E != api.OK {
		return
	}
	f := p.Req.Form
	sound := len(p.Req.Cmds) >= 1 && len(p.Req.Cmds) <= api.MaxKeys && p.Used <= len(b) && p.Reply == "" && p.Skip == 0 && !p.Line && f.Dialect == api.DText
	for i, c := range p.Req.Cmds {
		sound = sound && c.Exp >= -api.MaxTime && c.Exp <= api.MaxTime && len(c.Value) <= api.MaxValue
		if len(f.Keys) > 0 {
			sound = sound && c.Key == f.Keys[i]
		}
		sound = sound && (frame.Key(c.Key) || c.Key == "" && len(f.Keys) == 0 && c.Op >= api.OFlush)
	}
	if !sound {
		t.Errorf("Parse(%.60q) = %s", b, shown(p))
	}
}
