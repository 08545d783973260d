package textin

import (
	"math/big"
	"math/rand"
	"regexp"
	"strings"
	"testing"

	"buttery/api"
)

// A plain reading of the promises: lines by patterns, numbers of any length.

const (
	word = `( +[^ ]+)`
	tail = `( +noreply)?`
)

var lines = []struct {
	verbs, rest string
}{
	{"get|gets", word + "+"},
	{"gat|gats", word + word + "+"},
	{"set|add|replace|append|prepend", word + word + word + word + tail},
	{"cas", word + word + word + word + word + tail},
	{"delete", word + tail},
	{"incr|decr|touch", word + word + tail},
	{"flush_all", tail},
	{"flush_all", word + tail},
	{"version|quit", ""},
}

// fitting are the patterns of the lines of the table.
func fitting() []*regexp.Regexp {
	var all []*regexp.Regexp
	for _, l := range lines {
		all = append(all, regexp.MustCompile(`^(?s: *(`+l.verbs+`)`+l.rest+` *)$`))
	}
	return all
}

var patterns = fitting()

var digits = regexp.MustCompile(`^[0-9]{1,40}$`)

// number is a Decimal up to 2^bits - less, or nil.
func number(s string, bits uint, less int64) *big.Int {
	if !digits.MatchString(s) {
		return nil
	}
	n, _ := new(big.Int).SetString(s, 10)
	most := new(big.Int).Lsh(big.NewInt(1), bits)
	if n.Cmp(most.Sub(most, big.NewInt(less))) > 0 {
		return nil
	}
	return n
}

func plainKey(s string) bool {
	for i := range len(s) {
		if s[i] <= 32 || s[i] == 127 {
			return false
		}
	}
	return len(s) >= 1 && len(s) <= 250
}

// plainLine is what a line of these words asks for: its commands without a value, and how many bytes that has (-1: no body); or its reply.
func plainLine(line string) (r api.Request, size int, reply string, skip int) {
	size = -1
	fits := false
	for _, p := range patterns {
		fits = fits || p.MatchString(line)
	}
	words := strings.FieldsFunc(line, func(c rune) bool { return c == ' ' })
	if !fits {
		return r, size, none, 0
	}
	verb, words := words[0], words[1:]
	c := api.Cmd{}
	fault := ""
	fail := func(reply string) {
		if fault == "" {
			fault = reply
		}
	}
	next := func() string {
		w := words[0]
		words = words[1:]
		return w
	}
	exp := func() {
		w := next()
		if n := number(strings.TrimPrefix(w, "-"), 40, 0); n == nil {
			fail(bad)
		} else if c.Exp = int(n.Int64()); w[0] == '-' {
			c.Exp = -c.Exp
		}
	}
	r.Form = api.Form{Dialect: api.DText, Verb: verb, WithCAS: verb == "gets" || verb == "gats"}
	key := func() {
		r.Form.Keys = append(r.Form.Keys, next())
		if !plainKey(r.Form.Keys[len(r.Form.Keys)-1]) || len(r.Form.Keys) > 16 {
			fail(bad)
		}
	}
	switch verb {
	case "get", "gets":
		c.Op = api.OGet
		for len(words) > 0 {
			key()
		}
	case "gat", "gats":
		c.Op = api.OGat
		exp()
		for len(words) > 0 {
			key()
		}
	case "set", "add", "replace", "append", "prepend", "cas":
		c.Op = map[string]int{"set": api.OSet, "add": api.OAdd, "replace": api.OReplace, "append": api.OAppend, "prepend": api.OPrepend, "cas": api.OSet}[verb]
		key()
		if n := number(next(), 32, 1); n == nil {
			fail(bad)
		} else {
			c.Flags = uint32(n.Uint64())
		}
		exp()
		n := number(next(), 64, 1)
		if n == nil {
			fail(bad)
		}
		if verb == "cas" {
			if n := number(next(), 64, 1); n == nil {
				fail(bad)
			} else {
				c.CAS = n.Uint64()
			}
		}
		if n != nil && n.Cmp(big.NewInt(1000)) > 0 {
			fail(large)
		}
		if n != nil && n.Cmp(big.NewInt(1<<30)) <= 0 {
			size = int(n.Int64())
			skip = size + 2
		}
	case "delete":
		c.Op = api.ODelete
		key()
	case "incr", "decr":
		c.Op = map[string]int{"incr": api.OIncr, "decr": api.ODecr}[verb]
		key()
		if n := number(next(), 64, 1); n == nil {
			fail(delta)
		} else {
			c.Delta = n.Uint64()
		}
	case "touch":
		c.Op = api.OTouch
		key()
		exp()
	case "flush_all":
		c.Op = api.OFlush
		if len(words) == 2 || len(words) == 1 && words[0] != "noreply" {
			exp()
		}
	case "version":
		c.Op = api.OVersion
	case "quit":
		c.Op = api.OQuit
	}
	r.Form.Quiet = len(words) > 0
	if fault != "" {
		return api.Request{}, -1, fault, skip
	}
	for _, k := range r.Form.Keys {
		c.Key = k
		r.Cmds = append(r.Cmds, c)
	}
	if len(r.Form.Keys) == 0 {
		r.Cmds = []api.Cmd{c}
	}
	return r, size, "", 0
}

// plainParse is Parse by the words of the promises.
func plainParse(b string) api.Step {
	at := strings.IndexByte(b, 10)
	if at < 0 {
		if len(b) > 2049 {
			return api.Step{E: api.ErrForm, Reply: long + "\r\n", Used: len(b), Line: true}
		}
		return api.Step{E: api.ErrMore}
	}
	line := strings.TrimSuffix(b[:at], "\r")
	if len(line) > 2048 {
		return api.Step{E: api.ErrForm, Reply: long + "\r\n", Used: at + 1}
	}
	r, size, reply, skip := plainLine(line)
	if reply != "" {
		return api.Step{E: api.ErrForm, Reply: reply + "\r\n", Used: at + 1, Skip: skip}
	}
	if size < 0 {
		return api.Step{Req: r, Used: at + 1}
	}
	body := b[at+1:]
	if len(body) < size+2 {
		return api.Step{E: api.ErrMore}
	}
	if body[size:size+2] != "\r\n" {
		return api.Step{E: api.ErrForm, Reply: chunk + "\r\n", Used: at + 1 + size, Line: true}
	}
	r.Cmds[0].Value = []byte(body[:size])
	return api.Step{Req: r, Used: at + 1 + size + 2}
}

var verbs = []string{"get", "gets", "gat", "gats", "set", "add", "replace", "append", "prepend", "cas", "delete", "incr", "decr", "touch", "flush_all", "version", "quit", "GET", "foo", "noreply"}

func wantPlain(t *testing.T, b string) {
	t.Helper()
	p := Parse([]byte(b))
	wantSound(t, b, p)
	if want := plainParse(b); !sameStep(p, want) {
		t.Errorf("Parse(%.80q of %d) = %s; want %s", b, len(b), shown(p), shown(want))
	}
}

// P14.1 to P14.4: all lines of up to six words behind a verb, out of a few.
func TestAllLinesOfAFewWords(t *testing.T) {
	choices := []string{"k", "5", "noreply", "-1", "\x7f"}
	rests := []string{""}
	last := rests
	for range 6 {
		var longer []string
		for _, rest := range last {
			for _, w := range choices {
				longer = append(longer, rest+" "+w)
			}
		}
		rests, last = append(rests, longer...), longer
	}
	for _, verb := range verbs {
		for _, rest := range rests {
			wantPlain(t, verb+rest+"\r\nhello\r\n")
		}
	}
}

// P14.1 to P14.4: the words of storing lines at their edges, each with each.
func TestAllStoringLinesAtTheirEdges(t *testing.T) {
	keys := []string{"k", filler(250), filler(251), "\x00"}
	flags := []string{"0", "4294967295", "4294967296", "-1"}
	exps := []string{"0", "-1", "1099511627776", "-1099511627777", "x"}
	sizes := []string{"0", "3", "1000", "1001", "1073741824", "1073741825", "18446744073709551615", "18446744073709551616", "-1"}
	tails := []string{"", " noreply", " x", " 7", " 7 noreply", " noreply noreply", " 18446744073709551616"}
	bodies := []string{"", "\r\n", "abc\r\n", "abcd\r\n", filler(1000) + "\r\n", filler(1001) + "\r\n", filler(3000)}
	for _, verb := range []string{"set", "prepend", "cas"} {
		for _, k := range keys {
			for _, f := range flags {
				for _, e := range exps {
					for _, s := range sizes {
						for _, q := range tails {
							line := strings.Join([]string{verb, k, f, e, s}, " ") + q + "\r\n"
							for _, body := range bodies {
								wantPlain(t, line+body)
							}
						}
					}
				}
			}
		}
	}
}

// P14.1 to P14.4: mixed words, ends and bodies, the same ones at each run.
func TestManyMixedBytes(t *testing.T) {
	r := rand.New(rand.NewSource(14))
	words := append([]string{"k", "0", "1", "3", "-1", "1000", "1001", "4294967295", "4294967296", "1099511627776", "1099511627777", "1073741824", "1073741825", "18446744073709551615", "18446744073709551616", "x", "\x7f", "\x00", "\xff", "noreply", "NOREPLY", filler(250), filler(251), "a\rb", "\r", "\t"}, verbs...)
	closings := []string{"\n", "\r\n", "\r\n", "\r\n", "\r\r\n", "\r", "", " \r\n"}
	bodies := []string{"", "\r\n", "x\r\n", "xyz\r\n", "xyz\n", "xyz\r", "\n", "get a\r\n", filler(1000) + "\r\n", filler(3000)}
	for range 200000 {
		b := verbs[r.Intn(len(verbs))]
		for range r.Intn(8) {
			b += strings.Repeat(" ", 1+r.Intn(30)/29) + words[r.Intn(len(words))]
		}
		if r.Intn(20) == 0 {
			b = " " + b
		}
		b += closings[r.Intn(len(closings))] + bodies[r.Intn(len(bodies))]
		wantPlain(t, b)
	}
}

// P14.1: bytes of any kind.
func TestAllShortTexts(t *testing.T) {
	signs := "get k\r\n\x00"
	last := []string{""}
	for range 6 {
		var longer []string
		for _, s := range last {
			for i := range len(signs) {
				longer = append(longer, s+signs[i:i+1])
			}
		}
		for _, s := range longer {
			wantPlain(t, s)
		}
		last = longer
	}
}

// P14.5: of a whole request each beginning is to be gone on with, and what is behind it changes nothing.
func TestMoreBytesChangeNothing(t *testing.T) {
	for _, c := range table {
		for _, q := range []string{"", " noreply"} {
			if q != "" && !c.may {
				continue
			}
			b := c.line + q + "\r\n" + c.body
			for n := range b {
				wantMore(t, b[:n])
			}
			want := Parse([]byte(b))
			if want.E != api.OK || want.Used != len(b) {
				t.Errorf("Parse(%q) = %s", b, shown(want))
			}
			for _, more := range behinds {
				wantStep(t, b+more, want)
			}
			for x := range 256 {
				wantStep(t, b+string([]byte{byte(x)}), want)
			}
		}
	}
}

// P14.5, R5: what was asked before plays no part.
func TestTheSameAnswerAgain(t *testing.T) {
	for _, b := range []string{"get a b\r\n", "set k 1 2 3\r\nxyz\r\n", "set k 1 2 3 noreply\r\nxyz\r\n", "get\r\n", "incr k x\r\n", "set k 0 0 1001\r\n", "set k"} {
		want := Parse([]byte(b))
		for _, other := range []string{"gets c d e\r\n", "cas k 9 9 1 9 noreply\r\nz\r\n", "flush_all 7 noreply\r\n", "foo\r\n", ""} {
			Parse([]byte(other))
			wantStep(t, b, want)
		}
	}
}
