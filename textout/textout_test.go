package textout

import (
	"bytes"
	"fmt"
	"math"
	"slices"
	"strings"
	"testing"

	"buttery/api"
)

// words are P15.1's.
var words = map[int]string{
	api.SMiss:     "NOT_FOUND",
	api.SStored:   "STORED",
	api.SRefused:  "NOT_STORED",
	api.SExists:   "EXISTS",
	api.SDeleted:  "DELETED",
	api.STouched:  "TOUCHED",
	api.SNoNumber: "CLIENT_ERROR cannot increment or decrement non-numeric value",
	api.SMemory:   "SERVER_ERROR out of memory storing object",
	api.SOK:       "OK",
	api.SVersion:  "VERSION 1",
}

// unnamed are statuses without a word, most of which are none at all.
var unnamed = []int{api.SHit, api.SNumber, api.SVersion + 1, api.SVersion + 2, 100, 257, 1<<16 + 1, 1<<32 + 1, math.MaxInt, -1, -2, -11, 1 - 1<<8, 1 - 1<<32, math.MinInt, math.MinInt + 1}

// silent are kinds of commands that are no OGet, no OGat and no OQuit: many are none at all.
var silent = []int{api.OTouch, api.OSet, api.OAdd, api.OReplace, api.OAppend, api.OPrepend, api.ODelete, api.OStale, api.OIncr, api.ODecr, api.OMeta, api.OFlush, api.ONoop, api.OVersion, api.OQuit + 1, 1 << 32, math.MaxInt, -1, math.MinInt}

// asking are those whose answers are what keys have.
var asking = []int{api.OGet, api.OGat}

// request is one of a kind of commands for some keys.
func request(op int, keys ...string) api.Request {
	r := api.Request{Form: api.Form{Dialect: api.DText, Keys: keys}}
	for _, k := range keys {
		r.Cmds = append(r.Cmds, api.Cmd{Op: op, Key: k})
	}
	return r
}

// mixed is a request whose commands are of these kinds, for the keys a, b, ..
func mixed(ops ...int) api.Request {
	r := api.Request{Form: api.Form{Dialect: api.DText}}
	for i, op := range ops {
		r.Cmds = append(r.Cmds, api.Cmd{Op: op, Key: string(rune('a' + i))})
	}
	return r
}

func counted(r api.Request) api.Request {
	r.Form.WithCAS = true
	return r
}

func quiet(r api.Request) api.Request {
	r.Form.Quiet = true
	return r
}

func hit(value string, flags uint32, cas uint64) api.Result {
	return api.Result{Status: api.SHit, Value: []byte(value), Flags: flags, CAS: cas}
}

var miss = api.Result{Status: api.SMiss}

func results(l ...api.Result) []api.Result { return l }

func wantAnswer(t *testing.T, r api.Request, l []api.Result, want string) {
	t.Helper()
	if b := string(Encode(r, l)); b != want {
		t.Errorf("Encode(%.200s, %.200s) = %.200q of %d; want %.200q of %d", fmt.Sprintf("%+v", r), fmt.Sprintf("%+v", l), b, len(b), want, len(want))
	}
}

// wantNothing asks for no answer: none, rather than one of no bytes.
func wantNothing(t *testing.T, r api.Request, l []api.Result) {
	t.Helper()
	if b := Encode(r, l); b != nil {
		t.Errorf("Encode(%.200s, %.200s) = %.200q; want nothing", fmt.Sprintf("%+v", r), fmt.Sprintf("%+v", l), b)
	}
}

// P15.2: the chapter's example.
func TestTheExample(t *testing.T) {
	wantAnswer(t, request(api.OGet, "a"), results(hit("xy", 1, 0)), "VALUE a 1 2\r\nxy\r\nEND\r\n")
}

// P15.1
func TestWordsOfAllStatuses(t *testing.T) {
	for status, want := range words {
		if s := Word(status); s != want {
			t.Errorf("Word(%d) = %q; want %q", status, s, want)
		}
	}
	for _, status := range unnamed {
		if s := Word(status); s != "" {
			t.Errorf("Word(%d) = %q; want nothing", status, s)
		}
	}
	for status := -300; status <= 300; status++ {
		if s := Word(status); s != words[status] {
			t.Errorf("Word(%d) = %q; want %q", status, s, words[status])
		}
	}
}

// P15.2
func TestGetsOfSomeKeys(t *testing.T) {
	for _, op := range asking {
		wantAnswer(t, request(op, "a"), results(hit("", 0, 5)), "VALUE a 0 0\r\n\r\nEND\r\n")
		wantAnswer(t, request(op, "a"), results(miss), "END\r\n")
		two := request(op, "one", "two")
		wantAnswer(t, two, results(hit("x", 7, 5), hit("yz", 8, 6)), "VALUE one 7 1\r\nx\r\nVALUE two 8 2\r\nyz\r\nEND\r\n")
		wantAnswer(t, two, results(hit("x", 7, 5), miss), "VALUE one 7 1\r\nx\r\nEND\r\n")
		wantAnswer(t, two, results(miss, hit("yz", 8, 6)), "VALUE two 8 2\r\nyz\r\nEND\r\n")
		wantAnswer(t, two, results(miss, miss), "END\r\n")
		same := request(op, "k", "k", "k")
		wantAnswer(t, same, results(hit("1", 1, 1), miss, hit("22", 2, 2)), "VALUE k 1 1\r\n1\r\nVALUE k 2 2\r\n22\r\nEND\r\n")
	}
}

// P15.2: hits and misses in turn, and as many keys as a get may have, and more.
func TestGetsOfManyKeys(t *testing.T) {
	for _, n := range []int{3, 15, 16, 17, 1000} {
		for _, op := range asking {
			var keys []string
			var all, turns, misses []api.Result
			wantAll, wantTurns := "", ""
			for i := range n {
				keys = append(keys, fmt.Sprint("key", i))
				value := strings.Repeat("v", i%13)
				h := hit(value, uint32(i), uint64(i+5))
				all, misses = append(all, h), append(misses, miss)
				told := fmt.Sprintf("VALUE key%d %d %d %d\r\n%s\r\n", i, i, i%13, i+5, value)
				wantAll += told
				if i%2 == 1 {
					turns, wantTurns = append(turns, h), wantTurns+told
				} else {
					turns = append(turns, miss)
				}
			}
			r := counted(request(op, keys...))
			wantAnswer(t, r, all, wantAll+"END\r\n")
			wantAnswer(t, r, turns, wantTurns+"END\r\n")
			wantAnswer(t, r, misses, "END\r\n")
		}
	}
}

// P15.2
func TestCAS(t *testing.T) {
	for _, op := range asking {
		r := request(op, "a", "b", "c")
		l := results(hit("x", 1, 9), miss, hit("", 2, 0))
		wantAnswer(t, r, l, "VALUE a 1 1\r\nx\r\nVALUE c 2 0\r\n\r\nEND\r\n")
		wantAnswer(t, counted(r), l, "VALUE a 1 1 9\r\nx\r\nVALUE c 2 0 0\r\n\r\nEND\r\n")
		wantAnswer(t, counted(r), results(miss, miss, miss), "END\r\n")
	}
	for _, op := range silent {
		wantAnswer(t, counted(request(op, "a")), results(api.Result{Status: api.SStored, CAS: 9}), "STORED\r\n")
	}
}

// P15.2: numbers at their ends.
func TestNumbers(t *testing.T) {
	a := request(api.OGet, "a")
	for flags, digits := range map[uint32]string{0: "0", 1: "1", 9: "9", 10: "10", 1<<31 - 1: "2147483647", 1 << 31: "2147483648", 1<<32 - 1: "4294967295"} {
		wantAnswer(t, a, results(hit("x", flags, 3)), "VALUE a "+digits+" 1\r\nx\r\nEND\r\n")
		wantAnswer(t, counted(a), results(hit("x", flags, 3)), "VALUE a "+digits+" 1 3\r\nx\r\nEND\r\n")
	}
	for n, digits := range map[uint64]string{0: "0", 1: "1", 9: "9", 10: "10", 1<<32 - 1: "4294967295", 1 << 32: "4294967296", 1<<63 - 1: "9223372036854775807", 1 << 63: "9223372036854775808", 1<<64 - 1: "18446744073709551615"} {
		wantAnswer(t, counted(a), results(hit("x", 3, n)), "VALUE a 3 1 "+digits+"\r\nx\r\nEND\r\n")
		for _, op := range silent {
			wantAnswer(t, request(op, "a"), results(api.Result{Status: api.SNumber, Number: n, CAS: 77}), digits+"\r\n")
		}
	}
}

// P15.2
func TestValuesOfAnyBytes(t *testing.T) {
	every := ""
	for c := range 256 {
		every += string([]byte{byte(c)})
		one := string([]byte{byte(c)})
		wantAnswer(t, request(api.OGet, "a"), results(hit(one, 0, 0)), "VALUE a 0 1\r\n"+one+"\r\nEND\r\n")
	}
	for _, value := range []string{"", "\r\n", "\n", "\r", "\r\n\r\n", "END", "END\r\n", "\r\nEND\r\n", "VALUE a 0 1\r\nx\r\nEND\r\n", "STORED\r\n", " ", "  ", "\x00", "%s%d", "\xff\xfe", "\u00e9\u2028", every, strings.Repeat("\r\n", 500), strings.Repeat("z", 999), strings.Repeat("z", 1000), strings.Repeat("z", 100000)} {
		for _, op := range asking {
			head := fmt.Sprintf("VALUE a 7 %d", len(value))
			wantAnswer(t, request(op, "a"), results(hit(value, 7, 4)), head+"\r\n"+value+"\r\nEND\r\n")
			wantAnswer(t, counted(request(op, "a")), results(hit(value, 7, 4)), head+" 4\r\n"+value+"\r\nEND\r\n")
		}
	}
	wantAnswer(t, request(api.OGet, "a"), results(api.Result{Status: api.SHit}), "VALUE a 0 0\r\n\r\nEND\r\n") // nil
}

// P15.2: keys are told as they stand in the commands, not in the form, also such as may not be.
func TestKeysOfTheCommands(t *testing.T) {
	for _, key := range []string{"", "k", " ", "a b", "\r\n", "END", "\x00\xff", strings.Repeat("k", 250), strings.Repeat("k", 251), "%d"} {
		r := request(api.OGet, key, "z")
		r.Form.Keys = []string{"other", "more"}
		wantAnswer(t, r, results(hit("x", 1, 2), miss), "VALUE "+key+" 1 1\r\nx\r\nEND\r\n")
		r.Form.Keys = nil
		wantAnswer(t, r, results(hit("x", 1, 2), hit("", 0, 0)), "VALUE "+key+" 1 1\r\nx\r\nVALUE z 0 0\r\n\r\nEND\r\n")
	}
}

// P15.2: of a get the results that are no hits tell nothing, whatever they are.
func TestGetsTellHitsAlone(t *testing.T) {
	for _, op := range asking {
		for status := -20; status <= 20; status++ {
			if status == api.SHit {
				continue
			}
			x := api.Result{Status: status, Value: []byte("x"), Flags: 1, CAS: 2, TTL: 3, Number: 4, Stale: true, Won: true, Lost: true}
			wantAnswer(t, request(op, "a"), results(x), "END\r\n")
			wantAnswer(t, counted(request(op, "a", "b", "c")), results(x, hit("y", 5, 6), x), "VALUE b 5 1 6\r\ny\r\nEND\r\n")
		}
		for _, status := range unnamed[1:] {
			wantAnswer(t, request(op, "a"), results(api.Result{Status: status, Value: []byte("x")}), "END\r\n")
		}
	}
}

// P15.2: another number of results than of commands.
func TestOtherNumbersOfResults(t *testing.T) {
	x, y, z := hit("x", 1, 4), hit("y", 2, 5), hit("z", 3, 6)
	for _, op := range asking {
		wantAnswer(t, request(op, "a", "b", "c"), results(x), "VALUE a 1 1\r\nx\r\nEND\r\n")
		wantAnswer(t, request(op, "a", "b", "c"), results(x, y), "VALUE a 1 1\r\nx\r\nVALUE b 2 1\r\ny\r\nEND\r\n")
		wantAnswer(t, request(op, "a", "b"), results(miss), "END\r\n")
		wantAnswer(t, request(op, "a"), results(x, y, z), "VALUE a 1 1\r\nx\r\nEND\r\n")
		wantAnswer(t, request(op, "a", "b"), results(miss, y, z), "VALUE b 2 1\r\ny\r\nEND\r\n")
		wantAnswer(t, request(op, "a"), results(miss, y, z), "END\r\n")
	}
	stored := api.Result{Status: api.SStored}
	for _, op := range silent {
		wantAnswer(t, request(op, "a", "b", "c"), results(stored), "STORED\r\n")
		wantAnswer(t, request(op, "a"), results(stored, miss, miss), "STORED\r\n")
	}
}

// P15.2: of no command, or of no result, the first so many are none.
func TestNoCommandsOrNoResults(t *testing.T) {
	l := results(hit("x", 1, 2), miss)
	for _, r := range []api.Request{{}, {Cmds: []api.Cmd{}}, {Form: api.Form{Dialect: api.DText, Verb: "get", Keys: []string{"a", "b"}}}} {
		for _, r := range []api.Request{r, quiet(r), counted(r)} {
			wantNothing(t, r, nil)
			wantNothing(t, r, results())
			wantNothing(t, r, l)
			wantNothing(t, r, results(api.Result{Status: api.SStored}))
			wantNothing(t, r, results(api.Result{Status: api.SNumber, Number: 5}))
		}
	}
	for _, op := range slices.Concat(asking, silent, []int{api.OQuit}) {
		for _, r := range []api.Request{request(op, "a"), quiet(request(op, "a")), counted(request(op, "a", "b"))} {
			wantNothing(t, r, nil)
			wantNothing(t, r, results())
		}
	}
}

// P15.2
func TestTheFirstResultOfOthers(t *testing.T) {
	for _, op := range silent {
		for status, word := range words {
			x := api.Result{Status: status, Value: []byte("x"), Flags: 1, CAS: 2, TTL: 3, Number: 4, Stale: true, Won: true, Lost: true}
			wantAnswer(t, request(op, "a"), results(x), word+"\r\n")
			wantAnswer(t, request(op, "a", "b"), results(x, hit("y", 5, 6)), word+"\r\n")
			wantAnswer(t, request(op, "a", "b"), results(x, api.Result{Status: api.SDeleted}), word+"\r\n")
		}
		for _, status := range unnamed {
			if status == api.SNumber {
				continue
			}
			wantNothing(t, request(op, "a"), results(api.Result{Status: status, Value: []byte("x"), Number: 4}))
			wantNothing(t, request(op, "a", "b"), results(api.Result{Status: status}, api.Result{Status: api.SStored}))
		}
		wantAnswer(t, request(op, "a", "b"), results(api.Result{Status: api.SNumber, Number: 4}, api.Result{Status: api.SNumber, Number: 5}), "4\r\n")
	}
	wantAnswer(t, request(api.OVersion, ""), results(api.Result{Status: api.SVersion}), "VERSION 1\r\n")
	wantAnswer(t, request(api.OFlush, ""), results(api.Result{Status: api.SOK}), "OK\r\n")
}

// P15.2
func TestQuiet(t *testing.T) {
	for _, op := range asking { // a get is answered, quiet or not
		r := quiet(request(op, "a", "b"))
		wantAnswer(t, r, results(hit("x", 1, 4), miss), "VALUE a 1 1\r\nx\r\nEND\r\n")
		wantAnswer(t, counted(r), results(hit("x", 1, 4), miss), "VALUE a 1 1 4\r\nx\r\nEND\r\n")
		wantAnswer(t, r, results(miss, miss), "END\r\n")
	}
	for _, op := range silent {
		for status := -20; status <= 20; status++ {
			wantNothing(t, quiet(request(op, "a")), results(api.Result{Status: status, Value: []byte("x"), Number: 4}))
			wantNothing(t, counted(quiet(request(op, "a", "b"))), results(api.Result{Status: status}, hit("x", 1, 4)))
		}
	}
}

// P15.2: a quit is not answered, loud or quiet.
func TestQuit(t *testing.T) {
	for status := -20; status <= 20; status++ {
		x := api.Result{Status: status, Value: []byte("x"), Number: 4}
		for _, r := range []api.Request{request(api.OQuit, ""), request(api.OQuit, "a", "b"), mixed(api.OQuit, api.OGet), mixed(api.OQuit, api.OVersion)} {
			wantNothing(t, r, results(x))
			wantNothing(t, r, results(x, x))
			wantNothing(t, quiet(r), results(x))
		}
	}
}

// P15.2: the first command alone says which kind of answer it is.
func TestTheFirstCommandDecides(t *testing.T) {
	l := results(hit("x", 1, 4), hit("y", 2, 5), hit("z", 3, 6))
	all := "VALUE a 1 1\r\nx\r\nVALUE b 2 1\r\ny\r\nVALUE c 3 1\r\nz\r\nEND\r\n"
	stored := api.Result{Status: api.SStored}
	for _, op := range append(slices.Clone(silent), api.OQuit) {
		for _, first := range asking {
			wantAnswer(t, mixed(first, op, op), l, all)
			wantAnswer(t, quiet(mixed(first, op, op)), l, all)
			wantAnswer(t, mixed(first, op, first), results(stored, l[1], stored), "VALUE b 2 1\r\ny\r\nEND\r\n")
			wantAnswer(t, mixed(first, op), results(miss, stored), "END\r\n")
		}
		for _, other := range asking {
			wantNothing(t, mixed(op, other, other), l)
			wantNothing(t, quiet(mixed(op, other, other)), results(stored, l[1], l[2]))
			want := "STORED\r\n"
			if op == api.OQuit {
				want = ""
			}
			wantAnswer(t, mixed(op, other, other), results(stored, l[1], l[2]), want)
		}
	}
	wantAnswer(t, mixed(api.OGet, api.OGat), l[:2], "VALUE a 1 1\r\nx\r\nVALUE b 2 1\r\ny\r\nEND\r\n")
	wantAnswer(t, mixed(api.OGat, api.OGet), l[:2], "VALUE a 1 1\r\nx\r\nVALUE b 2 1\r\ny\r\nEND\r\n")
	wantAnswer(t, mixed(api.OSet, api.OQuit), results(stored, stored), "STORED\r\n")
}

// P15.2: what the form tells of other dialects, and of other answers, plays no part.
func TestTheRestOfTheFormPlaysNoPart(t *testing.T) {
	form := api.Form{Dialect: api.DMeta, Verb: "gets", Code: 12, Opaque: 7, Flags: "kvcfst", Tokens: []string{"x", "y"}, Keys: []string{"z"}, Base64: true}
	for _, f := range []api.Form{form, {}, {Dialect: api.DBinary, Code: 13}, {Dialect: -5, Verb: "quit"}, {Verb: "set", Flags: "q"}} {
		get, set := request(api.OGet, "a"), request(api.OSet, "a")
		get.Form, set.Form = f, f
		x := hit("xy", 1, 2)
		x.TTL, x.Number, x.Stale, x.Won, x.Lost = 5, 6, true, true, true
		wantAnswer(t, get, results(x), "VALUE a 1 2\r\nxy\r\nEND\r\n")
		wantAnswer(t, set, results(api.Result{Status: api.SExists}), "EXISTS\r\n")
	}
	get := api.Request{Cmds: []api.Cmd{{Op: api.OGet, Key: "a", Value: []byte("other"), Flags: 9, Exp: 9, CAS: 9, Delta: 9, Initial: 9, Makes: true, Sets: true}}}
	wantAnswer(t, counted(get), results(hit("xy", 1, 2)), "VALUE a 1 2 2\r\nxy\r\nEND\r\n")
}

// R3: what is handed in stays, and what is answered is the caller's own.
func TestNothingIsShared(t *testing.T) {
	r := counted(request(api.OGet, "a", "b", "c"))
	value := []byte("xy#behind")
	l := results(api.Result{Status: api.SHit, Value: value[:2], Flags: 1, CAS: 2}, miss, hit("", 3, 4))
	const want = "VALUE a 1 2 2\r\nxy\r\nVALUE c 3 0 4\r\n\r\nEND\r\n"
	stays := func() {
		t.Helper()
		if s := fmt.Sprintf("%+v %+v", r, l); s != fmt.Sprintf("%+v %+v", counted(request(api.OGet, "a", "b", "c")), results(hit("xy", 1, 2), miss, hit("", 3, 4))) {
			t.Errorf("what was handed in is now %s", s)
		}
		if string(value) != "xy#behind" {
			t.Errorf("the bytes of the value are %q", value)
		}
	}
	b := Encode(r, l)
	stays()
	_ = append(b, "########"...)
	for i := range b {
		b[i] = '?'
	}
	stays()
	wantAnswer(t, r, l, want)
	b = Encode(r, l)
	c := Encode(r, l)
	for i := range c {
		c[i] = '?'
	}
	copy(value, "??")
	l[0].Flags, r.Cmds[0].Key = 7, "z"
	if string(b) != want {
		t.Errorf("behind a change of what was handed in: %q", b)
	}
}

// R3, also of answers of one line.
func TestLinesAreTheCallersOwn(t *testing.T) {
	for _, x := range []api.Result{{Status: api.SStored}, {Status: api.SNumber, Number: 12}, {Status: api.SVersion}} {
		r := request(api.OSet, "a")
		first := Encode(r, results(x))
		want := string(first)
		for i := range first {
			first[i] = '?'
		}
		_ = append(first[:0:len(first)], "abc"...)
		wantAnswer(t, r, results(x), want)
	}
	r := request(api.OGet, "a")
	first := Encode(r, results(miss))
	copy(first, "???")
	wantAnswer(t, r, results(miss), "END\r\n")
}

// R5: the answer hangs on nothing that was asked before.
func TestAnswersHangOnNothingElse(t *testing.T) {
	r, l := request(api.OGet, "a"), results(hit("xy", 1, 0))
	want := Encode(r, l)
	for _, op := range silent {
		Encode(request(op, "k"), results(api.Result{Status: api.SMemory}))
		Encode(quiet(counted(request(api.OGat, "k"))), results(hit("long", 9, 9)))
		if b := Encode(r, l); !bytes.Equal(b, want) {
			t.Fatalf("Encode = %q; before it was %q", b, want)
		}
	}
}
