package metain

import (
	"encoding/base64"
	"math/big"
	"math/rand"
	"regexp"
	"strings"
	"testing"

	"buttery/api"
)

// A plain reading of the promises: flags by patterns, numbers of any length, texts of sixty-four signs by the library.

var digits = regexp.MustCompile(`^[0-9]{1,40}$`)

// number is a Decimal up to 2^bits - less, or nil.
func number(s string, bits uint, less int64) *big.Int {
	if !digits.MatchString(s) {
		return nil
	}
	n, _ := new(big.Int).SetString(s, 10)
	most := new(big.Int).Lsh(big.NewInt(1), bits)
	if n.Cmp(most.Sub(most, big.NewInt(less))) > 0 {
		return nil
	}
	return n
}

// plainKey tells whether a text may be a key as it is told.
func plainKey(s string) bool {
	for i := range len(s) {
		if s[i] <= 32 || s[i] == 127 {
			return false
		}
	}
	return len(s) >= 1 && len(s) <= 250
}

// patterns are the lines of the chapter's table, all flags without a token as they stand there, of those with one the letters.
var patterns = map[string]struct {
	words int
	bare  *regexp.Regexp
	told  *regexp.Regexp
}{
	"mg": {2, regexp.MustCompile(`^[bcfkqstv]$`), regexp.MustCompile(`^[OTN]`)},
	"ms": {3, regexp.MustCompile(`^[bckq]$`), regexp.MustCompile(`^[OFTCM]`)},
	"md": {2, regexp.MustCompile(`^[bkqI]$`), regexp.MustCompile(`^[OCT]`)},
	"ma": {2, regexp.MustCompile(`^[bckqtv]$`), regexp.MustCompile(`^[OCDJNM]`)},
	"mn": {1, nil, nil},
}

// plainToken takes the token of a flag, and tells whether it is one.
func plainToken(verb, flag string, c *api.Cmd) bool {
	token := flag[1:]
	exp := func() bool {
		n := number(strings.TrimPrefix(token, "-"), 40, 0)
		if n == nil {
			return false
		}
		c.Exp = int(n.Int64())
		if token[0] == '-' {
			c.Exp = -c.Exp
		}
		return true
	}
	decimal := func(to *uint64) bool {
		n := number(token, 64, 1)
		if n != nil {
			*to = n.Uint64()
		}
		return n != nil
	}
	switch flag[0] {
	case 'O':
		return len(token) >= 1 && len(token) <= 32
	case 'F':
		n := number(token, 32, 1)
		if n != nil {
			c.Flags = uint32(n.Uint64())
		}
		return n != nil
	case 'T':
		c.Sets = verb == "mg" || verb == "md"
		return exp()
	case 'N':
		c.Makes = true
		return exp()
	case 'C':
		return decimal(&c.CAS)
	case 'D':
		return decimal(&c.Delta)
	case 'J':
		return decimal(&c.Initial)
	}
	ops := map[string]int{"S": api.OSet, "E": api.OAdd, "A": api.OAppend, "P": api.OPrepend, "R": api.OReplace}
	if verb == "ma" {
		ops = map[string]int{"I": api.OIncr, "+": api.OIncr, "D": api.ODecr, "-": api.ODecr}
	}
	op, is := ops[token]
	c.Op = op
	return is
}

// plainLine is what a line asks for: its request without a value, and how many bytes that has (-1: no body); or its reply.
func plainLine(line string) (r api.Request, size int, reply string, skip int) {
	words := strings.FieldsFunc(line, func(c rune) bool { return c == ' ' })
	if len(words) == 0 {
		return r, -1, none, 0
	}
	verb := words[0]
	p, is := patterns[verb]
	if !is || len(words) < p.words || verb == "mn" && len(words) > 1 {
		return r, -1, none, 0
	}
	c := api.Cmd{Op: map[string]int{"mg": api.OMeta, "ms": api.OSet, "md": api.ODelete, "ma": api.OIncr, "mn": api.ONoop}[verb]}
	f := api.Form{Dialect: api.DMeta, Verb: verb}
	if verb == "mn" {
		return api.Request{Cmds: []api.Cmd{c}, Form: f}, -1, "", 0
	}
	var bytes *big.Int
	size = -1
	if verb == "ms" {
		if bytes = number(words[2], 64, 1); bytes != nil && bytes.Cmp(big.NewInt(1<<30)) <= 0 {
			size = int(bytes.Int64())
			skip = size + 2
		}
	}
	if verb == "ma" {
		c.Delta = 1
	}
	flags := words[p.words:]
	if len(flags) > 16 {
		return api.Request{}, -1, many, skip
	}
	seen := map[byte]bool{}
	for _, flag := range flags {
		switch {
		case !p.bare.MatchString(flag) && !p.told.MatchString(flag):
			return api.Request{}, -1, invalid, skip
		case seen[flag[0]]:
			return api.Request{}, -1, again, skip
		case p.told.MatchString(flag) && !plainToken(verb, flag, &c):
			return api.Request{}, -1, token, skip
		}
		seen[flag[0]] = true
		if flag == "I" {
			c.Op = api.OStale
		}
		if strings.IndexByte("bcfkOstv", flag[0]) >= 0 {
			f.Flags += flag[:1]
			f.Tokens = append(f.Tokens, flag[1:])
		}
	}
	f.Quiet, f.Base64 = seen['q'], seen['b']
	f.Keys = words[1:2]
	c.Key = words[1]
	isKey := plainKey(c.Key)
	if f.Base64 {
		b, err := base64.StdEncoding.Strict().DecodeString(c.Key)
		isKey = err == nil && !strings.ContainsAny(c.Key, "\r\n") && len(b) >= 1 && len(b) <= 250
		c.Key = string(b)
	}
	if !isKey || verb == "ms" && bytes == nil {
		return api.Request{}, -1, bad, skip
	}
	if verb == "ms" && bytes.Cmp(big.NewInt(1000)) > 0 {
		return api.Request{}, -1, large, skip
	}
	return api.Request{Cmds: []api.Cmd{c}, Form: f}, size, "", 0
}

// plainParse is Parse by the words of the promises.
func plainParse(b string) api.Step {
	at := strings.IndexByte(b, 10)
	if at < 0 {
		if len(b) > 2049 {
			return api.Step{E: api.ErrForm, Reply: long + "\r\n", Used: len(b), Line: true}
		}
		return api.Step{E: api.ErrMore}
	}
	line := strings.TrimSuffix(b[:at], "\r")
	if len(line) > 2048 {
		return api.Step{E: api.ErrForm, Reply: long + "\r\n", Used: at + 1}
	}
	r, size, reply, skip := plainLine(line)
	if reply != "" {
		return api.Step{E: api.ErrForm, Reply: reply + "\r\n", Used: at + 1, Skip: skip}
	}
	if size < 0 {
		return api.Step{Req: r, Used: at + 1}
	}
	body := b[at+1:]
	if len(body) < size+2 {
		return api.Step{E: api.ErrMore}
	}
	if body[size:size+2] != "\r\n" {
		return api.Step{E: api.ErrForm, Reply: chunk + "\r\n", Used: at + 1 + size, Line: true}
	}
	r.Cmds[0].Value = []byte(body[:size])
	return api.Step{Req: r, Used: at + 1 + size + 2}
}

func wantPlain(t *testing.T, b string) {
	t.Helper()
	p := Parse([]byte(b))
	wantSound(t, b, p)
	if want := plainParse(b); !sameStep(p, want) {
		t.Errorf("Parse(%.80q of %d) = %s; want %s", b, len(b), shown(p), shown(want))
	}
}

var verbs = []string{"mg", "ms", "md", "ma", "mn"}

// P18.1, P18.3: every letter with every other one behind it, without a token and with some.
func TestAllPairsOfFlags(t *testing.T) {
	var flags []string
	for _, letter := range "bcfkqstvIOTNFCMDJxm5" {
		for _, token := range []string{"", "5", "S", "D", "4294967296"} {
			flags = append(flags, string(letter)+token)
		}
	}
	for _, verb := range verbs {
		for _, line := range []string{" k 3", " aw== 3", " k x"} {
			if verb != "ms" {
				line = strings.Fields(line)[0]
			}
			for _, one := range flags {
				for _, other := range flags {
					wantPlain(t, verb+" "+strings.TrimSpace(line)+" "+one+" "+other+"\r\nabc\r\n")
				}
			}
		}
	}
}

// P18.1 to P18.3: the words of ms at their edges, each with each.
func TestAllStoringLinesAtTheirEdges(t *testing.T) {
	keys := []string{"k", "aw==", filler(250), filler(251), encoded(filler(250)), encoded(filler(251)), "\x00"}
	sizes := []string{"0", "3", "1000", "1001", "1073741824", "1073741825", "18446744073709551615", "18446744073709551616", "-1", "q"}
	tails := []string{"", " b", " q", " b q", " F4294967295", " F4294967296 b", " T-1099511627776 MA", " T1099511627777", " C18446744073709551615", " C18446744073709551616", " MX b", " ME ME", " O" + filler(32), " b O" + filler(33), " v", strings.Repeat(" k", 16), strings.Repeat(" b", 17)}
	bodies := []string{"", "\r\n", "abc\r\n", "abcd\r\n", filler(1000) + "\r\n", filler(1001) + "\r\n", filler(3000)}
	for _, k := range keys {
		for _, s := range sizes {
			for _, tail := range tails {
				for _, body := range bodies {
					wantPlain(t, "ms "+k+" "+s+tail+"\r\n"+body)
				}
			}
		}
	}
}

// mixedFlag is mostly one that some verb has, with a token that mostly may be.
func mixedFlag(r *rand.Rand) string {
	tokens := []string{"0", "1", "5", "-5", "S", "E", "A", "P", "R", "I", "D", "+", "-", "xyz", "4294967295", "4294967296", "1099511627776", "1099511627777", "18446744073709551615", "18446744073709551616", filler(32), filler(33), "\x00"}
	letter := "bcfkqstvI"[r.Intn(9):][:1]
	switch r.Intn(40) {
	case 0:
		return string([]byte{byte(33 + r.Intn(223))}) // of any kind
	case 1:
		return letter + tokens[r.Intn(len(tokens))]
	case 2:
		return "OTNFCMDJ"[r.Intn(8):][:1]
	}
	if r.Intn(2) == 0 {
		return letter
	}
	return "OTNFCMDJ"[r.Intn(8):][:1] + tokens[r.Intn(len(tokens))]
}

// P18.1 to P18.3: mixed words, ends and bodies, the same ones at each run.
func TestManyMixedBytes(t *testing.T) {
	r := rand.New(rand.NewSource(18))
	first := append([]string{"MG", "m", "mx", "get", "\x00"}, verbs...)
	keys := []string{"k", "k", "aw==", "aw=", "b", filler(250), filler(251), encoded(filler(250)), encoded(filler(251)), "\x7f", "\xff", "5"}
	sizes := []string{"0", "1", "3", "3", "3", "1000", "1001", "1073741825", "x", "q", "18446744073709551616"}
	closings := []string{"\n", "\r\n", "\r\n", "\r\n", "\r\r\n", "\r", "", " \r\n"}
	bodies := []string{"", "\r\n", "x\r\n", "xyz\r\n", "xyz\r\n", "xyz\n", "xyz\r", "\n", "mg a v\r\n", filler(1000) + "\r\n", filler(3000)}
	requests := 0
	for range 300000 {
		verb := verbs[r.Intn(4)]
		if r.Intn(20) == 0 {
			verb = first[r.Intn(len(first))]
		}
		b := verb
		if r.Intn(20) > 0 {
			b += " " + keys[r.Intn(len(keys))]
		}
		if verb == "ms" && r.Intn(20) > 0 {
			b += " " + sizes[r.Intn(len(sizes))]
		}
		for range r.Intn(1+r.Intn(6)) + r.Intn(100)/97*12 {
			b += strings.Repeat(" ", 1+r.Intn(30)/29) + mixedFlag(r)
		}
		b += closings[r.Intn(len(closings))] + bodies[r.Intn(len(bodies))]
		wantPlain(t, b)
		if Parse([]byte(b)).E == api.OK {
			requests++
		}
	}
	if requests < 30000 {
		t.Errorf("only %d of them are requests", requests)
	}
}

// P18.1: bytes of any kind.
func TestAllShortTexts(t *testing.T) {
	signs := "mgsn k0v\r\n"
	last := []string{""}
	for range 6 {
		var longer []string
		for _, s := range last {
			for i := range len(signs) {
				longer = append(longer, s+signs[i:i+1])
			}
		}
		for _, s := range longer {
			wantPlain(t, s)
		}
		last = longer
	}
}

// P18.4: of a whole request each beginning is to be gone on with, and what is behind it changes nothing.
func TestMoreBytesChangeNothing(t *testing.T) {
	lines := []string{"mn\r\n"}
	for _, k := range kinds {
		for _, flags := range []string{"", " q", " k Ox", " O" + filler(32)} {
			lines = append(lines, k.line+flags+"\r\n"+k.body)
		}
	}
	for _, b := range lines {
		for n := range b {
			wantMore(t, b[:n])
		}
		want := Parse([]byte(b))
		if want.E != api.OK || want.Used != len(b) {
			t.Errorf("Parse(%q) = %s", b, shown(want))
		}
		for _, more := range behinds {
			wantStep(t, b+more, want)
		}
		for x := range 256 {
			wantStep(t, b+string([]byte{byte(x)}), want)
		}
	}
}

// P18.4, R5: what was asked before plays no part.
func TestTheSameAnswerAgain(t *testing.T) {
	for _, b := range []string{"mg k t v\r\n", "ms k 3 F7 T5\r\nxyz\r\n", "md k I q\r\n", "ma k\r\n", "mn\r\n", "mg\r\n", "mg k t t\r\n", "ms k 1001\r\n", "ms k"} {
		want := Parse([]byte(b))
		for _, other := range []string{"mg aw== b q Ox T9 N3\r\n", "ms k 1 C9 MA q F3\r\nz\r\n", "ma k D9 J9 MD\r\n", "foo\r\n", ""} {
			Parse([]byte(other))
			wantStep(t, b, want)
		}
	}
}
