package binin

import (
	"encoding/binary"
	"math/rand"
	"slices"
	"strings"
	"testing"

	"buttery/api"
)

// A plain reading of the promises: the chapter's table, row by row.

var table = []struct {
	codes, extras string
	value, key    bool
	ops           []int
}{
	{"0 (9) 12 (13)", "", false, true, []int{api.OGet, api.OGet}},
	{"1 (17) 2 (18) 3 (19)", "Flags Exp", true, true, []int{api.OSet, api.OAdd, api.OReplace}},
	{"4 (20)", "", false, true, []int{api.ODelete}},
	{"5 (21) 6 (22)", "Delta Initial Exp", false, true, []int{api.OIncr, api.ODecr}},
	{"7 (23)", "", false, false, []int{api.OQuit}},
	{"8 (24)", "or Exp", false, false, []int{api.OFlush}},
	{"10", "", false, false, []int{api.ONoop}},
	{"11", "", false, false, []int{api.OVersion}},
	{"14 (25) 15 (26)", "", true, true, []int{api.OAppend, api.OPrepend}},
	{"28", "Exp", false, true, []int{api.OTouch}},
	{"29 (30)", "Exp", false, true, []int{api.OGat}},
}

// row is what the table says of one code.
type row struct {
	op         int
	quiet      bool
	extras     string
	value, key bool
}

func rows() map[string]row {
	all := map[string]row{}
	for _, line := range table {
		at := -1
		for _, code := range strings.Fields(line.codes) {
			quiet := code[0] == '('
			if !quiet {
				at++
			}
			all[strings.Trim(code, "()")] = row{line.ops[at], quiet, line.extras, line.value, line.key}
		}
	}
	return all
}

var byCode = rows()

// plainExtras takes the extras one by one, and tells whether they are as many as the row says.
func plainExtras(c *api.Cmd, names string, x []byte) bool {
	if names == "or Exp" {
		if len(x) == 0 {
			return true
		}
		names = "Exp"
	}
	for _, name := range strings.Fields(names) {
		size := map[string]int{"Flags": 4, "Exp": 4, "Delta": 8, "Initial": 8}[name]
		if len(x) < size {
			return false
		}
		switch name {
		case "Flags":
			c.Flags = binary.BigEndian.Uint32(x)
		case "Exp":
			c.Exp = int(binary.BigEndian.Uint32(x))
		case "Delta":
			c.Delta = binary.BigEndian.Uint64(x)
		case "Initial":
			c.Initial = binary.BigEndian.Uint64(x)
		}
		x = x[size:]
	}
	return len(x) == 0
}

// plainParse is P16.1 and P16.2, sentence by sentence.
func plainParse(b []byte) api.Step {
	if len(b) == 0 {
		return api.Step{E: api.ErrMore}
	}
	if b[0] != 128 {
		return api.Step{E: api.ErrQuit}
	}
	if len(b) < 24 {
		return api.Step{E: api.ErrMore}
	}
	long := binary.BigEndian.Uint32(b[8:])
	if long > 2048 {
		return api.Step{E: api.ErrQuit}
	}
	if uint32(len(b)-24) < long {
		return api.Step{E: api.ErrMore}
	}
	code, k, x := b[1], int(binary.BigEndian.Uint16(b[2:])), int(b[4])
	opaque := binary.BigEndian.Uint32(b[12:])
	body := b[24 : 24+long]
	fail := func(status byte) api.Step {
		return api.Step{E: api.ErrForm, Used: 24 + len(body), Reply: replyOf(code, status, opaque)}
	}
	r, is := byCode[decimal(code)]
	if !is {
		return fail(129)
	}
	if x+k > len(body) {
		return fail(4)
	}
	c := api.Cmd{Op: r.op, Key: string(body[x : x+k]), Value: slices.Clone(body[x+k:]), CAS: binary.BigEndian.Uint64(b[16:])}
	if !plainExtras(&c, r.extras, body[:x]) || len(c.Value) > 0 && !r.value || k > 0 && !r.key {
		return fail(4)
	}
	if r.key && (k < 1 || k > 250) {
		return fail(4)
	}
	if len(c.Value) > 1000 {
		return fail(3)
	}
	if c.Op == api.OIncr || c.Op == api.ODecr {
		c.Makes = c.Exp != 0xffffffff
		if !c.Makes {
			c.Exp = 0
		}
	}
	f := api.Form{Dialect: api.DBinary, Code: int(code), Opaque: opaque, Quiet: r.quiet}
	if k > 0 {
		f.Keys = []string{c.Key}
	}
	return api.Step{Req: api.Request{Cmds: []api.Cmd{c}, Form: f}, Used: 24 + len(body)}
}

func decimal(code byte) string {
	s := ""
	for n := int(code); n > 0 || s == ""; n /= 10 {
		s = string(rune('0'+n%10)) + s
	}
	return s
}

func wantPlain(t *testing.T, b []byte) {
	t.Helper()
	p := Parse(b)
	wantSound(t, b, p)
	if want := plainParse(b); !sameStep(p, want) {
		t.Errorf("Parse(% x of %d) = %s; want %s", b[:min(len(b), 60)], len(b), shown(p), shown(want))
	}
}

// P16.1: the plain reading has the codes that the chapter has.
func TestThePlainTable(t *testing.T) {
	if len(byCode) != 29 {
		t.Errorf("%d codes", len(byCode))
	}
}

// P16.1, P16.2: heads and bodies at their edges, each with each.
func TestAllHeadsAtTheirEdges(t *testing.T) {
	body := []byte(strings.Repeat("\xff\x00\x01\x02", 520))
	for code := range 256 {
		if code > 32 && code < 250 && code%16 != 0 {
			continue
		}
		for _, x := range []int{0, 1, 3, 4, 5, 7, 8, 9, 12, 19, 20, 21, 255} {
			for _, k := range []int{0, 1, 2, 249, 250, 251, 256, 2048, 65535} {
				for _, v := range []int{-1, 0, 1, 999, 1000, 1001} {
					size := max(0, min(x+k+v, 2049))
					b := append(headOf(byte(code), x, k, size), body...)
					for _, there := range []int{0, size - 1, size, size + 1, 2080} {
						if there >= 0 {
							wantPlain(t, b[:24+there])
						}
					}
				}
			}
		}
	}
}

// P16.1, P16.2: mixed packets, most of which are nearly sound, the same ones at each run.
func TestManyMixedPackets(t *testing.T) {
	r := rand.New(rand.NewSource(16))
	text := func(sizes ...int) string {
		b := make([]byte, sizes[r.Intn(len(sizes))])
		for i := range b {
			b[i] = []byte{0, 1, 255, 128, byte(r.Intn(256))}[r.Intn(5)]
		}
		return string(b)
	}
	told := map[api.Errno]int{}
	for range 200000 {
		p := packet{code: byte(r.Intn(32)), extras: text(0, 0, 4, 8, 20, 8, 4, r.Intn(30)), key: text(1, 1, 0, 3, 250, 251), value: text(0, 0, 1, 5, 1000, 1001), opaque: r.Uint32(), cas: r.Uint64()}
		if fit := sizes(p.code); r.Intn(2) == 0 {
			p.extras = text(fit[r.Intn(len(fit))])
		}
		if len(p.extras) >= 4 && r.Intn(4) == 0 {
			p.extras = p.extras[:len(p.extras)-4] + "\xff\xff\xff\xff"
		}
		b := append(p.bytes(), text(0, 0, 1, 40)...)
		for range r.Intn(3) / 2 {
			b[r.Intn(min(len(b), 24))] = byte(r.Intn(256))
		}
		if r.Intn(10) == 0 {
			b = b[:r.Intn(len(b)+1)]
		}
		wantPlain(t, b)
		told[Parse(b).E]++
	}
	for _, e := range []api.Errno{api.OK, api.ErrForm, api.ErrMore, api.ErrQuit} {
		if told[e] < 1000 {
			t.Errorf("only %d packets were of the kind %d", told[e], e)
		}
	}
}

// P16.1, R1: bytes of any kind.
func TestAnyBytes(t *testing.T) {
	r := rand.New(rand.NewSource(161))
	for range 100000 {
		b := make([]byte, r.Intn(60))
		for i := range b {
			b[i] = []byte{0, 0, 0, 0, 0, 0, 1, 4, 8, byte(r.Intn(256))}[r.Intn(10)]
		}
		if len(b) > 0 && r.Intn(20) > 0 {
			b[0] = 128
		}
		wantPlain(t, b)
	}
}

// P16.3: more bytes behind a request change nothing of it.
func TestMoreBytesChangeNothing(t *testing.T) {
	for _, x := range codes {
		b := x.bytes()
		want := Parse(b)
		if want.E != api.OK || want.Used != len(b) {
			t.Errorf("code %d: %s", x.code, shown(want))
		}
		for c := range 256 {
			wantStep(t, append(b[:len(b):len(b)], byte(c)), want)
		}
		for _, y := range codes {
			wantStep(t, append(b[:len(b):len(b)], y.bytes()...), want)
		}
	}
}

// P16.3: packets one behind the other are told one by one.
func TestPacketsInARow(t *testing.T) {
	var all []byte
	for _, x := range codes {
		all = append(all, x.bytes()...)
		all = append(all, packet{code: 99, key: "k", value: "xy"}.bytes()...)
	}
	for _, x := range codes {
		p := Parse(all)
		if p.E != api.OK || p.Req.Cmds[0].Op != x.cmd.Op || p.Req.Cmds[0].Key != x.key {
			t.Fatalf("code %d: %s", x.code, shown(p))
		}
		all = all[p.Used:]
		if p = Parse(all); p.E != api.ErrForm {
			t.Fatalf("behind code %d: %s", x.code, shown(p))
		}
		all = all[p.Used:]
	}
	wantAlone(t, all, api.ErrMore)
}
