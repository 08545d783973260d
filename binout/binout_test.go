package binout

import (
	"bytes"
	"math"
	"reflect"
	"strings"
	"testing"

	"buttery/api"
)

// packet is an answer by its parts: its head tells how long these are.
type packet struct {
	code               byte
	status             uint16
	extras, key, value string
	opaque             uint32
	cas                uint64
}

func (p packet) bytes() []byte {
	b := []byte{129, p.code, byte(len(p.key) >> 8), byte(len(p.key)), byte(len(p.extras)), 0, byte(p.status >> 8), byte(p.status)}
	b = append(b, four(uint32(len(p.extras)+len(p.key)+len(p.value)))...)
	b = append(b, four(p.opaque)...)
	b = append(b, eight(p.cas)...)
	return append(b, p.extras+p.key+p.value...)
}

func four(n uint32) string {
	return string([]byte{byte(n >> 24), byte(n >> 16), byte(n >> 8), byte(n)})
}

func eight(n uint64) string { return four(uint32(n>>32)) + four(uint32(n)) }

// headOf is a head that tells of so many bytes, which aren't there.
func headOf(extras, key, body int) []byte {
	b := packet{code: 1, status: 2, opaque: 3, cas: 4}.bytes()
	b[2], b[3], b[4] = byte(key>>8), byte(key), byte(extras)
	copy(b[8:], four(uint32(body)))
	return b
}

// filler is so many bytes.
func filler(size int) string {
	b := make([]byte, size)
	for i := range b {
		b[i] = byte('a' + i%26)
	}
	return string(b)
}

// behinds are bytes that may come behind an answer.
var behinds = []string{"", "\x81", "\x80", "\x00", "x", "\r\n", string(packet{code: 10}.bytes()), strings.Repeat("\x81", 30), strings.Repeat("y", 3000)}

// read is what Read answers.
type read struct {
	code   int
	status uint16
	opaque uint32
	cas    uint64
	parts  [3]string
	used   int
}

func readAll(b []byte) read {
	code, status, opaque, cas, parts, used := Read(b)
	return read{code, status, opaque, cas, [3]string{string(parts[0]), string(parts[1]), string(parts[2])}, used}
}

// whole is what Read must answer of a packet.
func (p packet) whole() read {
	return read{int(p.code), p.status, p.opaque, p.cas, [3]string{p.extras, p.key, p.value}, 24 + len(p.extras) + len(p.key) + len(p.value)}
}

func wantRead(t *testing.T, b []byte, want read) {
	t.Helper()
	if x := readAll(b); x != want {
		t.Errorf("Read(% x of %d) = %.300q; want %.300q", b[:min(len(b), 60)], len(b), []any{x}, []any{want})
	}
}

// wantNone asks for noughts.
func wantNone(t *testing.T, b []byte) {
	t.Helper()
	wantRead(t, b, read{})
}

// wantAnswer asks for a packet, byte by byte, and for the same one when it is read again (P17.4).
func wantAnswer(t *testing.T, r api.Request, l []api.Result, want packet) {
	t.Helper()
	b := Encode(r, l)
	if !bytes.Equal(b, want.bytes()) {
		t.Errorf("Encode(%.300q, %.300q) = % x of %d; want % x", []any{r}, []any{l}, b[:min(len(b), 60)], len(b), want.bytes()[:24])
		return
	}
	for _, more := range behinds {
		wantRead(t, append(b[:len(b):len(b)], more...), want.whole())
	}
}

func wantNothing(t *testing.T, r api.Request, l []api.Result) {
	t.Helper()
	if b := Encode(r, l); len(b) != 0 {
		t.Errorf("Encode(%.300q, %.300q) = % x; want nothing", []any{r}, []any{l}, b[:min(len(b), 60)])
	}
}

// asked is a request of one command.
func asked(op, code int, quiet bool) api.Request {
	return api.Request{Cmds: []api.Cmd{{Op: op, Key: "key"}}, Form: api.Form{Dialect: api.DBinary, Code: code, Opaque: 0x01020304, Quiet: quiet, Keys: []string{"other"}}}
}

// full is a result of which every part says something.
func full(status int) api.Result {
	return api.Result{Status: status, Value: []byte("value"), Flags: 0x11121314, CAS: 0x2122232425262728, TTL: 99, Number: 0x3132333435363738, Stale: true, Won: true, Lost: true}
}

// fullAnswer is what comes of a full result on a request of a code other than 12 and 13.
func fullAnswer(status int) packet {
	p := packet{opaque: 0x01020304}
	switch status {
	case api.SHit:
		p.extras, p.value, p.cas = "\x11\x12\x13\x14", "value", 0x2122232425262728
	case api.SStored:
		p.cas = 0x2122232425262728
	case api.SNumber:
		p.value, p.cas = "\x31\x32\x33\x34\x35\x36\x37\x38", 0x2122232425262728
	case api.SVersion:
		p.value = "1"
	}
	p.status = statuses[status]
	return p
}

// statuses are the Codes, from status 0 on.
var statuses = []uint16{0, 1, 0, 5, 2, 0, 0, 0, 6, 130, 0, 0}

func codeOf(status int) uint16 {
	if status < 0 || status >= len(statuses) {
		return 132
	}
	return statuses[status]
}

// The example of the chapter, and the third of the whole.
func TestExamples(t *testing.T) {
	noop := api.Request{Cmds: []api.Cmd{{Op: api.ONoop}}, Form: api.Form{Dialect: api.DBinary, Code: 10, Opaque: 7}}
	b := Encode(noop, []api.Result{{Status: api.SOK}})
	if !bytes.Equal(b, []byte{129, 10, 0, 0, 0, 0, 0, 0, 0, 0, 0, 0, 0, 0, 0, 7, 0, 0, 0, 0, 0, 0, 0, 0}) {
		t.Errorf("noop: % x", b)
	}
	get := api.Request{Cmds: []api.Cmd{{Op: api.OGet, Key: "k"}}, Form: api.Form{Dialect: api.DBinary, Opaque: 9, Keys: []string{"k"}}}
	b = Encode(get, []api.Result{{Status: api.SHit, Value: []byte("xy"), Flags: 7, CAS: 1, TTL: -1}})
	if !bytes.Equal(b, []byte{129, 0, 0, 0, 4, 0, 0, 0, 0, 0, 0, 6, 0, 0, 0, 9, 0, 0, 0, 0, 0, 0, 0, 1, 0, 0, 0, 7, 'x', 'y'}) {
		t.Errorf("get: % x", b)
	}
}

// P17.1: each status, and those beside them.
func TestCodes(t *testing.T) {
	for status, want := range map[int]uint16{
		api.SHit: 0, api.SStored: 0, api.SDeleted: 0, api.STouched: 0, api.SNumber: 0, api.SOK: 0, api.SVersion: 0,
		api.SMiss: 1, api.SExists: 2, api.SRefused: 5, api.SNoNumber: 6, api.SMemory: 130,
		-1: 132, 12: 132, 13: 132, -2: 132, 99: 132, 130: 132, 256: 132, 1 << 32: 132, math.MaxInt: 132, math.MinInt: 132,
	} {
		if c := Code(status); c != want {
			t.Errorf("Code(%d) = %d; want %d", status, c, want)
		}
	}
	for status := range 12 {
		if c := Code(status); c != statuses[status] {
			t.Errorf("Code(%d) = %d; want %d", status, c, statuses[status])
		}
	}
}

// P17.2: no command, no result.
func TestNothingToAnswer(t *testing.T) {
	for op := -1; op <= api.OQuit+1; op++ {
		for status := -1; status <= 12; status++ {
			for _, quiet := range []bool{false, true} {
				r := asked(op, 12, quiet)
				wantNothing(t, r, nil)
				wantNothing(t, r, []api.Result{})
				for _, none := range [][]api.Cmd{nil, {}} {
					r.Cmds = none
					wantNothing(t, r, []api.Result{full(status)})
					wantNothing(t, r, nil)
				}
			}
		}
	}
	wantNothing(t, api.Request{}, nil)
}

// P17.2: of many commands and results, the first ones.
func TestTheFirstOnes(t *testing.T) {
	r := asked(api.OGet, 13, false)
	want := packet{code: 13, extras: "\x11\x12\x13\x14", key: "key", value: "value", opaque: 0x01020304, cas: 0x2122232425262728}
	one, more := []api.Result{full(api.SHit)}, []api.Result{full(api.SHit), full(api.SMiss), {Status: api.SNumber, Number: 5}}
	wantAnswer(t, r, one, want)
	wantAnswer(t, r, more, want)
	r.Cmds = append(r.Cmds, api.Cmd{Op: api.OSet, Key: "second"}, api.Cmd{Op: api.OGet, Key: "third"})
	wantAnswer(t, r, one, want)
	wantAnswer(t, r, more[:2], want)
	wantAnswer(t, r, more, want)

	r.Form.Quiet = true // the first of both tell whether there is an answer, too
	wantAnswer(t, r, more, want)
	wantNothing(t, r, []api.Result{full(api.SMiss), full(api.SHit)})
	r.Cmds[0].Op = api.OSet
	wantNothing(t, r, []api.Result{full(api.SStored), full(api.SExists)})
	wantAnswer(t, r, []api.Result{full(api.SExists), full(api.SStored)}, packet{code: 13, status: 2, opaque: 0x01020304})
}

// P17.2: each status of each loud command, with each form's code.
func TestLoudRequests(t *testing.T) {
	for op := -1; op <= api.OQuit+1; op++ {
		for code := range 256 {
			if code == 12 || code == 13 {
				continue
			}
			for status := range 12 {
				want := fullAnswer(status)
				want.code = byte(code)
				if b := Encode(asked(op, code, false), []api.Result{full(status)}); !bytes.Equal(b, want.bytes()) {
					t.Errorf("%d, %d, %d: % x; want % x", op, code, status, b, want.bytes())
				}
			}
		}
		for _, status := range []int{-1, 12, 99, math.MaxInt, math.MinInt} {
			wantAnswer(t, asked(op, 1, false), []api.Result{full(status)}, packet{code: 1, status: 132, opaque: 0x01020304})
		}
	}
}

// P17.2: what quiet requests are told: of gets all but misses, of others all but what went well.
func TestQuietRequests(t *testing.T) {
	for op := -1; op <= api.OQuit+1; op++ {
		get := op == api.OGet || op == api.OGat
		for status := -1; status <= 12; status++ {
			r, l := asked(op, 9, true), []api.Result{full(status)}
			if get && status == api.SMiss || !get && codeOf(status) == 0 {
				wantNothing(t, r, l)
				continue
			}
			want := packet{status: 132, opaque: 0x01020304}
			if status >= 0 && status < 12 {
				want = fullAnswer(status)
			}
			want.code = 9
			wantAnswer(t, r, l, want)
		}
	}
	// Quiet is what the form says, whatever its code is.
	for code := range 256 {
		wantNothing(t, asked(api.OGet, code, true), []api.Result{full(api.SMiss)})
		wantNothing(t, asked(api.OSet, code, true), []api.Result{full(api.SStored)})
		wantAnswer(t, asked(api.OGet, code, false), []api.Result{full(api.SMiss)}, packet{code: byte(code), status: 1, opaque: 0x01020304})
	}
}

// P17.2: codes with which a hit has a key, whatever was asked and however quietly.
func TestCodesWithKeys(t *testing.T) {
	for code := range 256 {
		for _, op := range []int{api.OGet, api.OGat, api.OTouch, api.OMeta} {
			for status := range 12 {
				want := fullAnswer(status)
				want.code = byte(code)
				if status == api.SHit && (code == 12 || code == 13) {
					want.key = "key"
				}
				b := Encode(asked(op, code, false), []api.Result{full(status)})
				if !bytes.Equal(b, want.bytes()) {
					t.Errorf("%d, %d, %d: % x; want % x", op, code, status, b, want.bytes())
				}
			}
		}
	}
	for _, code := range []int{12, 13} {
		want := fullAnswer(api.SHit)
		want.code, want.key = byte(code), "key"
		wantAnswer(t, asked(api.OGet, code, true), []api.Result{full(api.SHit)}, want)
		for _, size := range []int{0, 1, 250, 251, 255, 256, 65534, 65535, 65536, 65537, 70000} {
			r := asked(api.OGet, code, false)
			r.Cmds[0].Key = filler(size)
			want.key = filler(min(size, 65535))
			wantAnswer(t, r, []api.Result{full(api.SHit)}, want)
			r.Form.Code = 0
			other := want
			other.code, other.key = 0, ""
			wantAnswer(t, r, []api.Result{full(api.SHit)}, other)
		}
	}
}

// P17.2: a form's code that is no byte has its lowest byte told, and is neither 12 nor 13.
func TestCodesThatAreNoBytes(t *testing.T) {
	for code, want := range map[int]byte{-1: 255, 256: 0, 256 + 12: 12, 512 + 13: 13, 12 - 256: 12, math.MaxInt: 255, math.MinInt: 0, 1<<32 + 12: 12} {
		p := fullAnswer(api.SHit)
		p.code = want
		wantAnswer(t, asked(api.OGet, code, false), []api.Result{full(api.SHit)}, p)
	}
}

// P17.2: values of no bytes and of many.
func TestValues(t *testing.T) {
	for _, size := range []int{0, 1, 8, 255, 256, 1000, 1001, 65535, 65536, 1<<20 - 5} {
		want := fullAnswer(api.SHit)
		want.value = filler(size)
		x := full(api.SHit)
		x.Value = []byte(filler(size))
		wantAnswer(t, asked(api.OGet, 0, false), []api.Result{x}, want)
	}
	x := full(api.SHit)
	x.Value = nil
	want := fullAnswer(api.SHit)
	want.value = ""
	wantAnswer(t, asked(api.OGet, 0, false), []api.Result{x}, want)
	x.Value = []byte("\x81\x00\r\n\xff\x81")
	want.value = string(x.Value)
	wantAnswer(t, asked(api.OGet, 0, false), []api.Result{x}, want)

	// The greatest that an answer is read again with, and one byte more.
	for _, size := range []int{1<<20 - 5, 1<<20 - 4, 1 << 20} {
		x.Value = []byte(filler(size))
		want.value = filler(size)
		b := Encode(asked(api.OGet, 0, false), []api.Result{x})
		if !bytes.Equal(b, want.bytes()) {
			t.Errorf("a value of %d bytes: % x", size, b[:30])
		}
		if size > 1<<20-5 {
			wantNone(t, b)
		}
	}
}

// P17.2: numbers of nought and of all ones, and each byte of them.
func TestNumbers(t *testing.T) {
	for _, n := range []uint64{0, 1, 255, 256, 258, 0x0102030405060708, 1<<32 - 1, 1 << 32, 1<<63 - 1, 1 << 63, math.MaxUint64} {
		for _, code := range []int{0, 12} {
			key := ""
			if code == 12 {
				key = "key"
			}
			r := asked(api.OGet, code, false)
			r.Form.Opaque = uint32(n)
			p := packet{code: byte(code), opaque: uint32(n)}
			hit := p
			hit.extras, hit.key, hit.cas = four(uint32(n)), key, n
			wantAnswer(t, r, []api.Result{{Status: api.SHit, Flags: uint32(n), CAS: n}}, hit)
			number := p
			number.value, number.cas = eight(n), ^n
			wantAnswer(t, r, []api.Result{{Status: api.SNumber, Number: n, CAS: ^n}}, number)
			stored := p
			stored.cas = n
			wantAnswer(t, r, []api.Result{{Status: api.SStored, CAS: n, Number: ^n}}, stored)
			version := p
			version.value = "1"
			wantAnswer(t, r, []api.Result{{Status: api.SVersion, CAS: n, Number: n}}, version)
			for status, number := range statuses {
				if status == api.SHit || status == api.SStored || status == api.SNumber || status == api.SVersion {
					continue
				}
				bare := p
				bare.status = number
				wantAnswer(t, r, []api.Result{{Status: status, CAS: n, Number: n, Flags: uint32(n), Value: []byte("v")}}, bare)
			}
		}
	}
}

// P17.3: what is no whole answer.
func TestNoWholeAnswers(t *testing.T) {
	wantNone(t, nil)
	wantNone(t, []byte{})
	for c := range 256 {
		b := packet{code: 1, status: 2, extras: "abcd", key: "e", value: "fg", opaque: 3, cas: 4}.bytes()
		b[0] = byte(c)
		if c == 129 {
			wantRead(t, b, packet{code: 1, status: 2, extras: "abcd", key: "e", value: "fg", opaque: 3, cas: 4}.whole())
			continue
		}
		wantNone(t, b)
		wantNone(t, b[:1])
		wantNone(t, append(b, b...))
	}
	for _, p := range []packet{{}, {code: 255, status: 65535, opaque: 1<<32 - 1, cas: math.MaxUint64}, {key: "k"}, {extras: "x"}, {value: "v"}, {extras: "abcd", key: "key", value: "value"}, {value: filler(300)}} {
		b := p.bytes()
		for n := range len(b) {
			wantNone(t, b[:n])
		}
		for _, more := range behinds {
			wantRead(t, append(b[:len(b):len(b)], more...), p.whole())
		}
	}
}

// P17.3: extras and key that are together less than the whole, as much, and more.
func TestPartsAndTheWhole(t *testing.T) {
	for _, x := range []int{0, 1, 4, 254, 255} {
		for _, k := range []int{0, 1, 250, 255, 256, 257, 65534, 65535} {
			for _, value := range []int{-300, -2, -1, 0, 1, 2, 1000} {
				size := max(0, x+k+value)
				body := filler(size)
				b := append(headOf(x, k, size), body...)
				if x+k > size {
					wantNone(t, b)
					wantNone(t, append(b, strings.Repeat("z", 70000)...))
					continue
				}
				want := packet{code: 1, status: 2, opaque: 3, cas: 4, extras: body[:x], key: body[x : x+k], value: body[x+k:]}.whole()
				wantRead(t, b, want)
				wantRead(t, append(b, strings.Repeat("z", 70000)...), want)
				if size > 0 {
					wantNone(t, b[:len(b)-1])
				}
			}
		}
	}
}

// P17.3: lengths about 2^20, and far above.
func TestLengths(t *testing.T) {
	body := filler(1<<20 + 10)
	for _, size := range []int{1<<20 - 2, 1<<20 - 1} {
		want := packet{code: 1, status: 2, opaque: 3, cas: 4, extras: body[:4], key: body[4:7], value: body[7:size]}.whole()
		b := append(headOf(4, 3, size), body...)
		wantRead(t, b, want)
		wantRead(t, b[:24+size], want)
		wantNone(t, b[:24+size-1])
	}
	for _, size := range []int{1 << 20, 1<<20 + 1, 1 << 24, 1<<31 - 1, 1 << 31, 1<<32 - 24, 1<<32 - 1} {
		wantNone(t, headOf(4, 3, size))
		wantNone(t, append(headOf(4, 3, size), body...))
	}
}

// P17.3: the nought of a head plays no part, and each other byte stands for itself.
func TestEachByteOfAHead(t *testing.T) {
	b := []byte{129, 0x21, 0, 2, 1, 0, 0x31, 0x32, 0, 0, 0, 5, 0x41, 0x42, 0x43, 0x44, 0x51, 0x52, 0x53, 0x54, 0x55, 0x56, 0x57, 0x58, 'a', 'b', 'c', 'd', 'e'}
	want := read{0x21, 0x3132, 0x41424344, 0x5152535455565758, [3]string{"a", "bc", "de"}, 29}
	for _, c := range []byte{0, 1, 255} {
		b[5] = c
		wantRead(t, b, want)
	}
}

// R3: what is handed in stays, and shares no memory with what is answered.
func TestNothingIsShared(t *testing.T) {
	r := asked(api.OGet, 12, false)
	value := append(make([]byte, 0, 64), "value"...)
	l := []api.Result{{Status: api.SHit, Value: value, Flags: 1, CAS: 2}}
	b := Encode(r, l)
	told := string(b)
	clear(value[:cap(value)])
	if string(b) != told {
		t.Error("the value that was handed in changes the answer")
	}
	again := asked(api.OGet, 12, false)
	for i := range b[:cap(b)] {
		b[:cap(b)][i] = 'X'
	}
	if !reflect.DeepEqual(r, again) || !bytes.Equal(value[:cap(value)], make([]byte, 64)) || l[0].Status != api.SHit {
		t.Error("the answer changes what was handed in")
	}

	whole := packet{code: 12, extras: "abcd", key: "key", value: "value"}.bytes()
	in := append(bytes.Clone(whole), "behind"...)
	_, _, _, _, parts, used := Read(in)
	if string(in) != string(whole)+"behind" {
		t.Error("Read changes what is handed in")
	}
	for i := range parts {
		_ = append(parts[i], "ZZZZZZZZ"...)
	}
	if string(in) != string(whole)+"behind" || string(parts[0])+string(parts[1])+string(parts[2]) != "abcdkeyvalue" {
		t.Error("a part that grows writes over others")
	}
	for i := range parts {
		for j := range parts[i] {
			parts[i][j] = '!'
		}
	}
	if string(in) != string(whole)+"behind" || used != len(whole) {
		t.Error("parts share memory with the bytes")
	}
	_, _, _, _, parts, _ = Read(in)
	clear(in)
	if string(parts[0])+string(parts[1])+string(parts[2]) != "abcdkeyvalue" {
		t.Error("the bytes that were handed in change the parts")
	}
}

// R5: an answer hangs on what is handed in alone.
func TestTheSameAgain(t *testing.T) {
	for status := -1; status <= 12; status++ {
		r, l := asked(api.OGet, 12, false), []api.Result{full(status)}
		b := Encode(r, l)
		Encode(asked(api.OSet, 1, true), []api.Result{full(api.SStored)})
		Read([]byte("nothing"))
		if !bytes.Equal(b, Encode(r, l)) || readAll(b) != readAll(b) {
			t.Errorf("status %d is told otherwise a second time", status)
		}
	}
}
