package binin

import (
	"fmt"
	"math"
	"reflect"
	"strings"
	"testing"

	"buttery/api"
	"buttery/frame"
)

// packet is a request by its parts: its head tells how long these are.
type packet struct {
	code               byte
	extras, key, value string
	opaque             uint32
	cas                uint64
}

func (p packet) bytes() []byte {
	b := []byte{128, p.code, byte(len(p.key) >> 8), byte(len(p.key)), byte(len(p.extras)), 0, 0, 0}
	b = append(b, four(uint32(len(p.extras)+len(p.key)+len(p.value)))...)
	b = append(b, four(p.opaque)...)
	b = append(b, eight(p.cas)...)
	return append(b, p.extras+p.key+p.value...)
}

func four(n uint32) string {
	return string([]byte{byte(n >> 24), byte(n >> 16), byte(n >> 8), byte(n)})
}

func eight(n uint64) string { return four(uint32(n>>32)) + four(uint32(n)) }

// headOf is one that tells of a body of so many bytes, which isn't there.
func headOf(code byte, extras, key, body int) []byte {
	b := packet{code: code, opaque: 0x01020304, cas: 5}.bytes()
	b[2], b[3], b[4] = byte(key>>8), byte(key), byte(extras)
	copy(b[8:], four(uint32(body)))
	return b
}

// filler is so many bytes.
func filler(size int) string {
	b := make([]byte, size)
	for i := range b {
		b[i] = byte('a' + i%26)
	}
	return string(b)
}

// behinds are bytes that may come behind a request.
var behinds = []string{"", "\x80", "\x00", "x", "\r\n", "get a\r\n", string(packet{code: 10}.bytes()), strings.Repeat("\x80", 30), strings.Repeat("y", 3000)}

// settled is a step in which all lists without elements are nil.
func settled(p api.Step) api.Step {
	var cmds []api.Cmd
	for _, c := range p.Req.Cmds {
		if len(c.Value) == 0 {
			c.Value = nil
		}
		cmds = append(cmds, c)
	}
	p.Req.Cmds = cmds
	for _, l := range []*[]string{&p.Req.Form.Keys, &p.Req.Form.Tokens} {
		if len(*l) == 0 {
			*l = nil
		}
	}
	return p
}

func sameStep(a, b api.Step) bool { return reflect.DeepEqual(settled(a), settled(b)) }

func shown(p api.Step) string {
	s := fmt.Sprintf("%#v", p)
	return s[:min(len(s), 600)]
}

func wantStep(t *testing.T, b []byte, want api.Step) {
	t.Helper()
	if p := Parse(b); !sameStep(p, want) {
		t.Errorf("Parse(% x of %d) = %s; want %s", b[:min(len(b), 60)], len(b), shown(p), shown(want))
	}
}

// wantAlone asks for an error and nothing else.
func wantAlone(t *testing.T, b []byte, e api.Errno) {
	t.Helper()
	wantStep(t, b, api.Step{E: e})
}

// replyOf is what P16.2 says, byte by byte.
func replyOf(code, status byte, opaque uint32) string {
	return "\x81" + string([]byte{code}) + "\x00\x00\x00\x00" + "\x00" + string([]byte{status}) + "\x00\x00\x00\x00" + four(opaque) + "\x00\x00\x00\x00\x00\x00\x00\x00"
}

// wantStatus asks for an ErrForm, whatever comes behind.
func wantStatus(t *testing.T, b []byte, status byte) {
	t.Helper()
	opaque := uint32(b[12])<<24 | uint32(b[13])<<16 | uint32(b[14])<<8 | uint32(b[15])
	for _, more := range behinds {
		wantStep(t, append(b[:len(b):len(b)], more...), api.Step{E: api.ErrForm, Reply: replyOf(b[1], status, opaque), Used: len(b)})
	}
}

// wantCmd asks for the request of a packet, whatever comes behind: key, value and CAS are the packet's.
func wantCmd(t *testing.T, p packet, cmd api.Cmd, quiet bool) {
	t.Helper()
	cmd.Key, cmd.Value, cmd.CAS = p.key, []byte(p.value), p.cas
	form := api.Form{Dialect: api.DBinary, Code: int(p.code), Opaque: p.opaque, Quiet: quiet}
	if p.key != "" {
		form.Keys = []string{p.key}
	}
	b := p.bytes()
	for _, more := range behinds {
		wantStep(t, append(b[:len(b):len(b)], more...), api.Step{Req: api.Request{Cmds: []api.Cmd{cmd}, Form: form}, Used: len(b)})
	}
}

const (
	storing  = "\x01\x02\x03\x04\x00\x00\x01\x05"
	counting = "\x01\x02\x03\x04\x05\x06\x07\x08\x11\x12\x13\x14\x15\x16\x17\x18\x00\x00\x01\x05"
	ending   = "\x00\x00\x01\x05"
)

// codes is a request of each code, with what it asks for.
var codes = []struct {
	packet
	cmd   api.Cmd
	quiet bool
}{
	{packet{code: 0, key: "k"}, api.Cmd{Op: api.OGet}, false},
	{packet{code: 1, extras: storing, key: "k", value: "xy"}, api.Cmd{Op: api.OSet, Flags: 0x01020304, Exp: 0x105}, false},
	{packet{code: 2, extras: storing, key: "k", value: "xy"}, api.Cmd{Op: api.OAdd, Flags: 0x01020304, Exp: 0x105}, false},
	{packet{code: 3, extras: storing, key: "k", value: "xy"}, api.Cmd{Op: api.OReplace, Flags: 0x01020304, Exp: 0x105}, false},
	{packet{code: 4, key: "k"}, api.Cmd{Op: api.ODelete}, false},
	{packet{code: 5, extras: counting, key: "k"}, api.Cmd{Op: api.OIncr, Delta: 0x0102030405060708, Initial: 0x1112131415161718, Exp: 0x105, Makes: true}, false},
	{packet{code: 6, extras: counting, key: "k"}, api.Cmd{Op: api.ODecr, Delta: 0x0102030405060708, Initial: 0x1112131415161718, Exp: 0x105, Makes: true}, false},
	{packet{code: 7}, api.Cmd{Op: api.OQuit}, false},
	{packet{code: 8}, api.Cmd{Op: api.OFlush}, false},
	{packet{code: 8, extras: ending}, api.Cmd{Op: api.OFlush, Exp: 0x105}, false},
	{packet{code: 9, key: "k"}, api.Cmd{Op: api.OGet}, true},
	{packet{code: 10}, api.Cmd{Op: api.ONoop}, false},
	{packet{code: 11}, api.Cmd{Op: api.OVersion}, false},
	{packet{code: 12, key: "k"}, api.Cmd{Op: api.OGet}, false},
	{packet{code: 13, key: "k"}, api.Cmd{Op: api.OGet}, true},
	{packet{code: 14, key: "k", value: "xy"}, api.Cmd{Op: api.OAppend}, false},
	{packet{code: 15, key: "k", value: "xy"}, api.Cmd{Op: api.OPrepend}, false},
	{packet{code: 17, extras: storing, key: "k", value: "xy"}, api.Cmd{Op: api.OSet, Flags: 0x01020304, Exp: 0x105}, true},
	{packet{code: 18, extras: storing, key: "k", value: "xy"}, api.Cmd{Op: api.OAdd, Flags: 0x01020304, Exp: 0x105}, true},
	{packet{code: 19, extras: storing, key: "k", value: "xy"}, api.Cmd{Op: api.OReplace, Flags: 0x01020304, Exp: 0x105}, true},
	{packet{code: 20, key: "k"}, api.Cmd{Op: api.ODelete}, true},
	{packet{code: 21, extras: counting, key: "k"}, api.Cmd{Op: api.OIncr, Delta: 0x0102030405060708, Initial: 0x1112131415161718, Exp: 0x105, Makes: true}, true},
	{packet{code: 22, extras: counting, key: "k"}, api.Cmd{Op: api.ODecr, Delta: 0x0102030405060708, Initial: 0x1112131415161718, Exp: 0x105, Makes: true}, true},
	{packet{code: 23}, api.Cmd{Op: api.OQuit}, true},
	{packet{code: 24}, api.Cmd{Op: api.OFlush}, true},
	{packet{code: 24, extras: ending}, api.Cmd{Op: api.OFlush, Exp: 0x105}, true},
	{packet{code: 25, key: "k", value: "xy"}, api.Cmd{Op: api.OAppend}, true},
	{packet{code: 26, key: "k", value: "xy"}, api.Cmd{Op: api.OPrepend}, true},
	{packet{code: 28, extras: ending, key: "k"}, api.Cmd{Op: api.OTouch, Exp: 0x105}, false},
	{packet{code: 29, extras: ending, key: "k"}, api.Cmd{Op: api.OGat, Exp: 0x105}, false},
	{packet{code: 30, extras: ending, key: "k"}, api.Cmd{Op: api.OGat, Exp: 0x105}, true},
}

func isCode(code int) bool {
	for _, c := range codes {
		if int(c.code) == code {
			return true
		}
	}
	return false
}

// The examples of the chapter, and the third of the whole.
func TestExamples(t *testing.T) {
	noop := append([]byte{128, 10}, make([]byte, 22)...)
	wantStep(t, noop, api.Step{Req: api.Request{Cmds: []api.Cmd{{Op: api.ONoop}}, Form: api.Form{Dialect: api.DBinary, Code: 10}}, Used: 24})
	wantAlone(t, []byte{127}, api.ErrQuit)
	get := []byte{128, 0, 0, 1, 0, 0, 0, 0, 0, 0, 0, 1, 0, 0, 0, 9, 0, 0, 0, 0, 0, 0, 0, 0, 'k'}
	wantStep(t, get, api.Step{Req: api.Request{Cmds: []api.Cmd{{Op: api.OGet, Key: "k"}}, Form: api.Form{Dialect: api.DBinary, Opaque: 9, Keys: []string{"k"}}}, Used: 25})
}

// P16.1
func TestNoBytes(t *testing.T) {
	wantAlone(t, nil, api.ErrMore)
	wantAlone(t, []byte{}, api.ErrMore)
}

// P16.1: a first byte other than 128, alone and ahead of others.
func TestFirstBytes(t *testing.T) {
	for c := range 256 {
		want := api.ErrQuit
		if c == 128 {
			want = api.ErrMore
		}
		wantAlone(t, []byte{byte(c)}, want)
		wantAlone(t, append([]byte{byte(c)}, make([]byte, 22)...), want)
		if c == 128 {
			continue
		}
		for _, x := range codes {
			b := x.bytes()
			b[0] = byte(c)
			wantAlone(t, b, want)
		}
		wantAlone(t, append([]byte{byte(c)}, packet{code: 10}.bytes()...), want)
		wantAlone(t, append([]byte{byte(c)}, strings.Repeat("\xff", 3000)...), want)
	}
}

// P16.1: a whole head is asked for ahead of what it says.
func TestHeadsThatAreToCome(t *testing.T) {
	for code := range 256 {
		for _, b := range [][]byte{headOf(byte(code), 0, 0, 0), headOf(byte(code), 255, 65535, 1<<32-1), headOf(byte(code), 4, 1, 2049)} {
			for n := 1; n < 24; n++ {
				wantAlone(t, b[:n], api.ErrMore)
			}
		}
	}
	wantStep(t, packet{code: 11}.bytes(), api.Step{Req: api.Request{Cmds: []api.Cmd{{Op: api.OVersion}}, Form: api.Form{Dialect: api.DBinary, Code: 11}}, Used: 24})
}

// P16.1: bodies that have come in part, whatever is wrong with them.
func TestBodiesThatAreToCome(t *testing.T) {
	for code := range 256 {
		for _, size := range []int{1, 2, 255, 256, 1000, 2047, 2048} {
			for _, x := range []int{0, 8, 255} {
				b := headOf(byte(code), x, 1, size)
				for _, there := range []int{0, 1, size / 2, size - 1} {
					wantAlone(t, append(b[:24:24], filler(min(there, size-1))...), api.ErrMore)
				}
			}
		}
	}
	for _, x := range codes {
		b := x.bytes()
		for n := 1; n < len(b); n++ {
			wantAlone(t, b[:n], api.ErrMore)
		}
	}
}

// P16.1: all of a body is used, and nothing behind it.
func TestWholeBodies(t *testing.T) {
	for _, size := range []int{251, 252, 255, 256, 1250} {
		wantCmd(t, packet{code: 14, key: filler(250), value: filler(size - 250), opaque: 1, cas: 2}, api.Cmd{Op: api.OAppend}, false)
	}
	for _, size := range []int{1251, 1999, 2000, 2047, 2048} {
		wantStatus(t, packet{code: 14, key: filler(250), value: filler(size - 250), opaque: 1, cas: 2}.bytes(), 3)
		wantStatus(t, packet{code: 10, value: filler(size)}.bytes(), 4)
		wantStatus(t, packet{code: 16, value: filler(size)}.bytes(), 129)
	}
}

// P16.1: for a body that is too long nobody waits, and nothing else that is wrong is told ahead of it.
func TestBodiesThatAreTooLong(t *testing.T) {
	for _, size := range []int{2049, 2050, 4096, 65535, 65536, 1 << 24, 1<<24 + 1, 1 << 31, 1<<31 + 1, 1<<32 - 1} {
		for code := range 256 {
			b := headOf(byte(code), 0, 1, size)
			wantAlone(t, b, api.ErrQuit)
			wantAlone(t, append(b[:24:24], 'k'), api.ErrQuit)
			wantAlone(t, append(b[:24:24], filler(2049)...), api.ErrQuit)
			wantAlone(t, append(b[:24:24], filler(5000)...), api.ErrQuit)
		}
	}
	b := headOf(0, 0, 1, 2048)
	wantAlone(t, b, api.ErrMore)
	wantStatus(t, append(b, filler(2048)...), 4)
}

// P16.1: each code, loud and quiet.
func TestCodes(t *testing.T) {
	for _, x := range codes {
		wantCmd(t, x.packet, x.cmd, x.quiet)
		x.opaque, x.cas = 0x81828384, 0x9192939495969798
		wantCmd(t, x.packet, x.cmd, x.quiet)
	}
}

// P16.1: those that are none, whatever else they come with.
func TestCodesThatAreNone(t *testing.T) {
	none := 0
	for code := range 256 {
		if isCode(code) {
			continue
		}
		none++
		for _, p := range []packet{{}, {key: "k"}, {extras: ending}, {extras: storing, key: "k", value: "xy"}, {extras: counting, key: "k"}, {key: filler(251)}, {key: "k", value: filler(1001)}, {value: filler(2048)}, {extras: filler(255), key: filler(300), value: filler(1400), cas: 9}} {
			p.code, p.opaque = byte(code), 0x01020304
			wantStatus(t, p.bytes(), 129)
		}
		wantStatus(t, headOf(byte(code), 255, 65535, 0), 129)
		wantStatus(t, append(headOf(byte(code), 1, 1, 1), 'k'), 129)
	}
	if none != 256-29 {
		t.Errorf("%d codes are none", none)
	}
}

// sizes are those of extras that a code may have.
func sizes(code byte) []int {
	switch code {
	case 1, 2, 3, 17, 18, 19:
		return []int{8}
	case 5, 6, 21, 22:
		return []int{20}
	case 8, 24:
		return []int{0, 4}
	case 28, 29, 30:
		return []int{4}
	}
	return []int{0}
}

// P16.1: extras of any other size than the table's, with the body as long as it says.
func TestExtrasOfOtherSizes(t *testing.T) {
	for _, x := range codes {
		for size := range 256 {
			may := false
			for _, n := range sizes(x.code) {
				may = may || n == size
			}
			p := x.packet
			p.opaque = 7
			p.extras = strings.Repeat("\x01", size)
			if !may {
				wantStatus(t, p.bytes(), 4)
			} else if step := Parse(p.bytes()); step.E != api.OK {
				t.Errorf("code %d, %d bytes of extras: %s", x.code, size, shown(step))
			}
		}
	}
}

// P16.1: extras are told by X alone, not by what is there.
func TestExtrasAndKeyChangePlaces(t *testing.T) {
	b := packet{code: 28, extras: "\x00\x00\x00\x05", key: "k"}.bytes()
	b[3], b[4] = 5, 0
	wantStatus(t, b, 4)
	b = packet{code: 4, key: "\x00\x00\x00\x05k"}.bytes()
	b[3], b[4] = 1, 4
	wantStatus(t, b, 4)
	b = packet{code: 14, key: "kxy"}.bytes()
	b[3] = 1
	wantStep(t, b, api.Step{Req: api.Request{Cmds: []api.Cmd{{Op: api.OAppend, Key: "k", Value: []byte("xy")}}, Form: api.Form{Dialect: api.DBinary, Code: 14, Keys: []string{"k"}}}, Used: 27})
}

// P16.1: extras and key together as long as the body, and longer.
func TestPartsBeyondTheBody(t *testing.T) {
	for _, x := range codes {
		whole := len(x.extras) + len(x.key)
		p := x.packet
		p.value, p.opaque = "", 9
		wantCmd(t, p, x.cmd, x.quiet)
		for body := range whole {
			b := headOf(x.code, len(x.extras), len(x.key), body)
			wantStatus(t, append(b, (x.extras + x.key)[:body]...), 4)
		}
		for _, more := range []int{1, 250, 255, 256, 257, 1800, 1 << 15, 65000} {
			key := len(x.key) + more
			size := min(len(x.extras)+key-1, 2048)
			b := headOf(x.code, len(x.extras), key, size)
			wantStatus(t, append(b, (x.extras + filler(2048))[:size]...), 4)
		}
	}
}

// P16.1: a value where there may be none.
func TestValuesWhereTheTableSaysNo(t *testing.T) {
	for _, x := range codes {
		switch x.cmd.Op {
		case api.OSet, api.OAdd, api.OReplace, api.OAppend, api.OPrepend:
			continue
		}
		for _, value := range []string{"x", "\x00", filler(4), filler(1000), filler(1001), filler(2000)} {
			p := x.packet
			p.value = value
			wantStatus(t, p.bytes(), 4)
		}
	}
}

// P16.1: a key where there may be none, and none where there must be one.
func TestKeys(t *testing.T) {
	for _, x := range codes {
		p := x.packet
		if p.key == "" {
			for _, key := range []string{"k", "\x00", filler(4), filler(250), filler(251), filler(2000)} {
				p.key = key
				wantStatus(t, p.bytes(), 4)
			}
			continue
		}
		for _, size := range []int{1, 2, 249, 250} {
			p.key = filler(size)
			wantCmd(t, p, x.cmd, x.quiet)
		}
		for _, size := range []int{0, 251, 252, 255, 256, 257, 512, 1000, 2000} {
			p.key = filler(size)
			wantStatus(t, p.bytes(), 4)
		}
	}
}

// P16.1: keys may have any bytes.
func TestKeysOfAnyBytes(t *testing.T) {
	keys := []string{"\r\n", "a b", " ", "\x00\x00", "\xff\xfe", "\x80", "k\x00", "\x7f", strings.Repeat("\x00", 250), strings.Repeat("\xc3", 250)}
	for c := range 256 {
		keys = append(keys, string([]byte{byte(c)}), string([]byte{'k', byte(c), 'k'}))
	}
	for _, key := range keys {
		wantCmd(t, packet{code: 0, key: key}, api.Cmd{Op: api.OGet}, false)
		wantCmd(t, packet{code: 17, extras: storing, key: key, value: key}, api.Cmd{Op: api.OSet, Flags: 0x01020304, Exp: 0x105}, true)
		wantCmd(t, packet{code: 30, extras: ending, key: key}, api.Cmd{Op: api.OGat, Exp: 0x105}, true)
	}
}

// P16.1
func TestValues(t *testing.T) {
	for _, x := range codes {
		if x.value == "" {
			continue
		}
		p := x.packet
		for _, value := range []string{"", "x", "\x00", "\r\n", "\xff\x80\x00", filler(255), filler(256), filler(999), filler(1000), strings.Repeat("\x00", 1000)} {
			p.value = value
			wantCmd(t, p, x.cmd, x.quiet)
			p.key = filler(250)
			wantCmd(t, p, x.cmd, x.quiet)
		}
		for _, size := range []int{1001, 1002, 1024, 1256, 2048 - len(p.extras) - 250} {
			p.value = filler(size)
			wantStatus(t, p.bytes(), 3)
		}
	}
}

// P16.1, R2: the first error that fits.
func TestSeveralFaults(t *testing.T) {
	long := filler(1001)
	for _, x := range []struct {
		packet
		status byte
	}{
		{packet{code: 16, value: long}, 129},
		{packet{code: 27, extras: "x", key: filler(251), value: long}, 129},
		{packet{code: 31}, 129},
		{packet{code: 255, extras: storing, value: long}, 129},
		{packet{code: 1, extras: storing, value: long}, 4},
		{packet{code: 1, extras: storing, key: filler(251), value: long}, 4},
		{packet{code: 1, extras: storing[:7], key: "k", value: long}, 4},
		{packet{code: 17, extras: storing + "x", key: "k", value: long}, 4},
		{packet{code: 2, key: "k", value: long}, 4},
		{packet{code: 14, value: long}, 4},
		{packet{code: 14, key: filler(251), value: long}, 4},
		{packet{code: 25, extras: ending, key: "k", value: long}, 4},
		{packet{code: 0, key: "k", value: long}, 4},
		{packet{code: 5, extras: counting, key: "k", value: long}, 4},
		{packet{code: 10, value: long}, 4},
		{packet{code: 11, key: "k", value: long}, 4},
		{packet{code: 7, extras: "x", key: "k", value: "v"}, 4},
		{packet{code: 3, extras: storing, key: "k", value: long}, 3},
		{packet{code: 26, key: filler(250), value: long}, 3},
	} {
		x.opaque, x.cas = 0xfffefdfc, 3
		wantStatus(t, x.bytes(), x.status)
	}
	wantAlone(t, headOf(16, 255, 65535, 2049), api.ErrQuit)
	wantAlone(t, headOf(16, 255, 65535, 1), api.ErrMore)
	wantAlone(t, append([]byte{129}, headOf(16, 0, 0, 2049)[1:]...), api.ErrQuit)
	wantAlone(t, headOf(1, 8, 1, 2049)[:23], api.ErrMore)
}

// P16.1: the end by which a number that is not there is not made.
func TestNumbersThatAreNotMade(t *testing.T) {
	for _, code := range []byte{5, 6, 21, 22} {
		op := api.OIncr
		if code == 6 || code == 22 {
			op = api.ODecr
		}
		for _, n := range []uint64{0, 1, 1 << 32, math.MaxUint64 - 1, math.MaxUint64} {
			numbers := eight(n) + eight(^n)
			wantCmd(t, packet{code: code, extras: numbers + "\xff\xff\xff\xff", key: "k"}, api.Cmd{Op: op, Delta: n, Initial: ^n}, code > 20)
			for _, exp := range []uint32{0, 1, 255, 1 << 16, 1 << 31, 0x7fffffff, 0xff, 0xff000000, 0xfffeffff, 0xfffffffe} {
				wantCmd(t, packet{code: code, extras: numbers + four(exp), key: "k"}, api.Cmd{Op: op, Delta: n, Initial: ^n, Exp: int(exp), Makes: true}, code > 20)
			}
		}
	}
}

// P16.1: numbers have no sign, and for all others an end of ffffffff is one as any.
func TestNumbersOfExtras(t *testing.T) {
	for _, n := range []uint32{0, 1, 255, 256, 65536, 2592000, 2592001, 1 << 24, 1<<31 - 1, 1 << 31, 0x01020304, math.MaxUint32 - 1, math.MaxUint32} {
		exp := int(n)
		for code, op := range map[byte]int{1: api.OSet, 2: api.OAdd, 3: api.OReplace} {
			wantCmd(t, packet{code: code, extras: four(n) + four(^n), key: "k", value: "v"}, api.Cmd{Op: op, Flags: n, Exp: int(^n)}, false)
			wantCmd(t, packet{code: code + 16, extras: four(^n) + four(n), key: "k", value: "v"}, api.Cmd{Op: op, Flags: ^n, Exp: exp}, true)
		}
		wantCmd(t, packet{code: 8, extras: four(n)}, api.Cmd{Op: api.OFlush, Exp: exp}, false)
		wantCmd(t, packet{code: 24, extras: four(n)}, api.Cmd{Op: api.OFlush, Exp: exp}, true)
		wantCmd(t, packet{code: 28, extras: four(n), key: "k"}, api.Cmd{Op: api.OTouch, Exp: exp}, false)
		wantCmd(t, packet{code: 29, extras: four(n), key: "k"}, api.Cmd{Op: api.OGat, Exp: exp}, false)
		wantCmd(t, packet{code: 30, extras: four(n), key: "k"}, api.Cmd{Op: api.OGat, Exp: exp}, true)
	}
}

// P16.1: the CAS is that of each command, the opaque that of each form.
func TestCASAndOpaque(t *testing.T) {
	for _, x := range codes {
		for _, cas := range []uint64{0, 1, 255, 1 << 32, 1 << 63, math.MaxUint64 - 1, math.MaxUint64} {
			for _, opaque := range []uint32{0, 1, 1 << 8, 1 << 31, math.MaxUint32 - 1, math.MaxUint32} {
				x.cas, x.opaque = cas, opaque
				wantCmd(t, x.packet, x.cmd, x.quiet)
			}
		}
	}
}

// P16.1: three bytes of a head play no part.
func TestBytesThatPlayNoPart(t *testing.T) {
	for _, x := range codes {
		for _, bytes := range []string{"\x01\x00\x00", "\x00\x01\x00", "\x00\x00\x01", "\x80\x00\x00", "\xff\xff\xff"} {
			b := x.bytes()
			want := Parse(b)
			copy(b[5:8], bytes)
			wantStep(t, b, want)
		}
	}
	b := packet{code: 99, opaque: 7, cas: 1<<64 - 1}.bytes()
	copy(b[5:8], "\xff\xff\xff")
	wantStatus(t, b, 129)
}

// P16.2: the reply of each status, byte by byte, at each code.
func TestReplies(t *testing.T) {
	for _, x := range []struct {
		packet
		want []byte
	}{
		{packet{code: 99, opaque: 0x01020304, cas: 5}, []byte{129, 99, 0, 0, 0, 0, 0, 129, 0, 0, 0, 0, 1, 2, 3, 4, 0, 0, 0, 0, 0, 0, 0, 0}},
		{packet{code: 0, opaque: math.MaxUint32, cas: math.MaxUint64}, []byte{129, 0, 0, 0, 0, 0, 0, 4, 0, 0, 0, 0, 255, 255, 255, 255, 0, 0, 0, 0, 0, 0, 0, 0}},
		{packet{code: 17, extras: storing, key: "key", value: filler(1001), opaque: 7}, []byte{129, 17, 0, 0, 0, 0, 0, 3, 0, 0, 0, 0, 0, 0, 0, 7, 0, 0, 0, 0, 0, 0, 0, 0}},
	} {
		b := x.bytes()
		wantStep(t, b, api.Step{E: api.ErrForm, Reply: string(x.want), Used: len(b)})
	}
	for code := range 256 {
		for _, opaque := range []uint32{0, 1, 0x80000000, math.MaxUint32} {
			status := byte(129)
			if isCode(code) {
				status = 4
			}
			wantStatus(t, packet{code: byte(code), extras: "xxx", opaque: opaque, cas: 8}.bytes(), status)
		}
	}
}

// R3: what is handed in stays, and what is answered is the caller's own.
func TestNothingIsShared(t *testing.T) {
	whole := append(packet{code: 17, extras: storing, key: "key", value: "value", opaque: 7, cas: 9}.bytes(), "behind"...)
	b := append([]byte(nil), whole...)
	p := Parse(b)
	want := Parse(append([]byte(nil), whole...))
	if string(b) != string(whole) {
		t.Fatalf("the bytes are %q", b)
	}
	for i := range b {
		b[i] ^= 0xff
	}
	if !sameStep(p, want) {
		t.Errorf("behind a change of the bytes: %s; want %s", shown(p), shown(want))
	}
	copy(b, whole)
	p = Parse(b)
	p.Req.Cmds[0].Value[0] = '#'
	_ = append(p.Req.Cmds[0].Value, "#######"...)
	p.Req.Form.Keys[0] = "other"
	_ = append(p.Req.Form.Keys, "more", "more")
	if p.Req.Cmds[0].Key != "key" {
		t.Errorf("the command's key is %q", p.Req.Cmds[0].Key)
	}
	if string(b) != string(whole) {
		t.Errorf("behind a change of the answer the bytes are %q", b)
	}
	wantStep(t, b, want)
}

// R3: bytes behind those that are handed in are neither read nor changed.
func TestWhatIsBehindTheBytesStays(t *testing.T) {
	whole := packet{code: 14, key: "k", value: "value"}.bytes()
	b := append(whole[:len(whole):len(whole)], "behind"...)
	p := Parse(b[:len(whole)])
	_ = append(p.Req.Cmds[0].Value, "########"...)
	if string(b) != string(whole)+"behind" {
		t.Errorf("the bytes are %q", b)
	}
	for n := 1; n < len(whole); n++ {
		wantAlone(t, b[:n], api.ErrMore)
	}
	wantAlone(t, b[:0], api.ErrMore)
}

// R5: what was asked before plays no part.
func TestTheSameAnswerAgain(t *testing.T) {
	for _, x := range codes {
		want := Parse(x.bytes())
		for _, y := range codes {
			y.opaque, y.cas = 77, 88
			Parse(y.bytes())
			Parse(packet{code: 99, opaque: 66}.bytes())
			Parse(nil)
			wantStep(t, x.bytes(), want)
		}
	}
}

// wantSound asks what P16.3 says of what has been parsed.
func wantSound(t *testing.T, b []byte, p api.Step) {
	t.Helper()
	if p.E != api.OK {
		return
	}
	f := p.Req.Form
	sound := len(p.Req.Cmds) == 1 && p.Used >= 24 && p.Used <= len(b) && p.Reply == "" && p.Skip == 0 && !p.Line && f.Dialect == api.DBinary
	for _, c := range p.Req.Cmds {
		sound = sound && c.Exp >= 0 && c.Exp <= math.MaxUint32 && len(c.Value) <= api.MaxValue
		if c.Op >= api.OFlush {
			sound = sound && c.Key == "" && len(f.Keys) == 0
		} else {
			sound = sound && frame.Keyed(c.Key) && len(f.Keys) == 1 && f.Keys[0] == c.Key
		}
	}
	if !sound {
		t.Errorf("Parse(% x of %d) = %s", b[:min(len(b), 60)], len(b), shown(p))
	}
}
