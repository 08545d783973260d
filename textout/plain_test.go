package textout

import (
	"fmt"
	"math"
	"math/rand"
	"strconv"
	"strings"
	"testing"

	"buttery/api"
)

// plainEncode is the words of P15.2, one behind the other.
func plainEncode(r api.Request, l []api.Result) string {
	for len(r.Cmds) > len(l) {
		r.Cmds = r.Cmds[:len(r.Cmds)-1]
	}
	for len(l) > len(r.Cmds) {
		l = l[:len(l)-1]
	}
	if len(r.Cmds) > 0 && (r.Cmds[0].Op == 0 || r.Cmds[0].Op == 1) {
		s := ""
		for i := range l {
			if l[i].Status != 0 {
				continue
			}
			s += "VALUE " + r.Cmds[i].Key + " " + strconv.Itoa(int(l[i].Flags)) + " " + strconv.Itoa(len(l[i].Value))
			if r.Form.WithCAS {
				s += fmt.Sprintf(" %d", l[i].CAS)
			}
			s += "\r\n" + string(l[i].Value) + "\r\n"
		}
		return s + "END\r\n"
	}
	if r.Form.Quiet || len(r.Cmds) == 0 || r.Cmds[0].Op == 16 {
		return ""
	}
	if l[0].Status == 7 {
		return fmt.Sprintf("%d\r\n", l[0].Number)
	}
	if words[l[0].Status] == "" {
		return ""
	}
	return words[l[0].Status] + "\r\n"
}

// rows are all of up to so many of these numbers.
func rows(numbers []int, most int) [][]int {
	all := [][]int{nil}
	last := all
	for range most {
		var longer [][]int
		for _, row := range last {
			for _, n := range numbers {
				longer = append(longer, append(row[:len(row):len(row)], n))
			}
		}
		all, last = append(all, longer...), longer
	}
	return all
}

// P15.2: all short rows of a few kinds of commands with all short rows of a few statuses.
func TestShortRows(t *testing.T) {
	ops := rows([]int{api.OGet, api.OGat, api.OSet, api.OVersion, api.OQuit, -1}, 3)
	statuses := rows([]int{api.SHit, api.SMiss, api.SStored, api.SNumber, api.SVersion + 1, -1}, 3)
	for _, some := range ops {
		r := mixed(some...)
		for _, row := range statuses {
			var l []api.Result
			for i, status := range row {
				l = append(l, api.Result{Status: status, Value: []byte("xyz"[:i]), Flags: uint32(i + 5), CAS: uint64(i + 8), Number: 12})
			}
			for _, r := range []api.Request{r, quiet(r), counted(r), quiet(counted(r))} {
				if b := Encode(r, l); string(b) != plainEncode(r, l) {
					t.Fatalf("kinds %v, statuses %v, quiet %v, counted %v: %q; want %q", some, row, r.Form.Quiet, r.Form.WithCAS, b, plainEncode(r, l))
				}
			}
		}
	}
}

// chance makes requests and results, most of which may be.
type chance struct{ *rand.Rand }

func (c chance) text(most int) string {
	pieces := []string{"\r\n", "\r", "\n", "END\r\n", "VALUE a 0 1\r\n", " ", "x", "\x00", "\xff", "7"}
	s := ""
	for range c.Intn(most + 1) {
		s += pieces[c.Intn(len(pieces))]
	}
	return s
}

func (c chance) number() uint64 {
	return []uint64{0, 1, 9, 10, 99, math.MaxUint32, math.MaxUint64, c.Uint64(), c.Uint64() >> c.Intn(64)}[c.Intn(9)]
}

func (c chance) request(kinds int) api.Request {
	r := api.Request{Form: api.Form{Dialect: c.Intn(4), Quiet: c.Intn(3) == 0, WithCAS: c.Intn(2) == 0}}
	op := c.Intn(kinds)
	for range c.Intn(6) {
		if c.Intn(4) == 0 {
			op = c.Intn(22) - 3
		}
		r.Cmds = append(r.Cmds, api.Cmd{Op: op, Key: c.text(3), Value: []byte("other"), CAS: 3})
	}
	return r
}

func (c chance) results() []api.Result {
	var l []api.Result
	for range c.Intn(6) {
		status := c.Intn(2)
		if c.Intn(3) == 0 {
			status = c.Intn(16) - 2
		}
		l = append(l, api.Result{Status: status, Value: []byte(c.text(5)), Flags: uint32(c.number()), CAS: c.number(), TTL: c.Intn(5) - 1, Number: c.number(), Stale: c.Intn(2) == 0, Won: c.Intn(2) == 0, Lost: c.Intn(2) == 0})
	}
	return l
}

// P15.2, R1: many mixed requests and results.
func TestMixedRequests(t *testing.T) {
	c := chance{rand.New(rand.NewSource(15))}
	for range 100000 {
		r, l := c.request(17), c.results()
		if b := Encode(r, l); string(b) != plainEncode(r, l) {
			t.Fatalf("Encode(%+v, %+v) = %q; want %q", r, l, b, plainEncode(r, l))
		}
	}
}

// line cuts the first line off an answer, by its END alone.
func line(t *testing.T, b string) (string, string) {
	t.Helper()
	first, rest, is := strings.Cut(b, "\r\n")
	if !is {
		t.Fatalf("a line without its END: %q", b)
	}
	return first, rest
}

// heard is what a client reads of the answer to a get that counts the bytes of values and looks for ends of lines nowhere else.
func heard(t *testing.T, b string) (keys []string, l []api.Result) {
	t.Helper()
	for {
		first, rest := line(t, b)
		if first == "END" {
			if rest != "" {
				t.Fatalf("behind the last line: %q", rest)
			}
			return keys, l
		}
		f := strings.Split(first, " ")
		if len(f) != 5 || f[0] != "VALUE" {
			t.Fatalf("a line of a get: %q", first)
		}
		flags, _ := strconv.ParseUint(f[2], 10, 32)
		size, _ := strconv.Atoi(f[3])
		cas, _ := strconv.ParseUint(f[4], 10, 64)
		keys = append(keys, f[1])
		l = append(l, api.Result{Status: api.SHit, Value: []byte(rest[:size]), Flags: uint32(flags), CAS: cas})
		var none string
		if none, b = line(t, rest[size:]); none != "" {
			t.Fatalf("behind a value: %q", none)
		}
	}
}

// P15.3: what a client hears of a get is what was told, whatever stands in the values.
func TestAnswersAreHeard(t *testing.T) {
	c := chance{rand.New(rand.NewSource(153))}
	for range 30000 {
		r := counted(request(asking[c.Intn(2)], "a", "END", "VALUE", "0", "k1"))
		l := c.results()
		var keys []string
		var want []api.Result
		for i, x := range l {
			if x.Status == api.SHit {
				keys = append(keys, r.Cmds[i].Key)
				want = append(want, api.Result{Status: api.SHit, Value: x.Value, Flags: x.Flags, CAS: x.CAS})
			}
		}
		if len(l) == 0 {
			continue
		}
		gotKeys, got := heard(t, string(Encode(r, l)))
		if fmt.Sprint(keys, want) != fmt.Sprint(gotKeys, got) {
			t.Fatalf("of %+v was heard: %q, %+v", l, gotKeys, got)
		}
	}
}

// P15.3: all other answers are one line with its END.
func TestOtherAnswersAreOneLine(t *testing.T) {
	for _, op := range silent {
		for status := -20; status <= 20; status++ {
			b := string(Encode(request(op, "a\r\nb"), results(api.Result{Status: status, Value: []byte("x\r\ny"), Number: 5})))
			if b != "" && (strings.Count(b, "\r") != 1 || strings.Count(b, "\n") != 1 || !strings.HasSuffix(b, "\r\n") || len(b) == 2) {
				t.Errorf("status %d: %q", status, b)
			}
		}
	}
}
