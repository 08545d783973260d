package binout

import (
	"encoding/binary"
	"math/rand"
	"slices"
	"strings"
	"testing"

	"buttery/api"
)

// A plain reading of the promises, held against the program.

// plainCode is P17.1.
func plainCode(status int) uint16 {
	if slices.Contains([]int{api.SHit, api.SStored, api.SDeleted, api.STouched, api.SNumber, api.SOK, api.SVersion}, status) {
		return 0
	}
	for _, x := range []struct {
		status int
		code   uint16
	}{{api.SMiss, 1}, {api.SExists, 2}, {api.SRefused, 5}, {api.SNoNumber, 6}, {api.SMemory, 130}} {
		if status == x.status {
			return x.code
		}
	}
	return 132
}

// The chapter's table, row by row.
var table = []struct {
	status                  string
	extras, key, value, cas string
}{
	{"SHit", "Flags", "the command's, if 12 or 13", "Value", "the result's"},
	{"SNumber", "none", "none", "Number", "the result's"},
	{"SStored", "none", "none", "none", "the result's"},
	{"SVersion", "none", "none", "1", "0"},
	{"others", "none", "none", "none", "0"},
}

func plainRow(status int) int {
	names := map[int]string{api.SHit: "SHit", api.SNumber: "SNumber", api.SStored: "SStored", api.SVersion: "SVersion"}
	for i, row := range table {
		if row.status == names[status] {
			return i
		}
	}
	return len(table) - 1
}

// plainPart is what one word of the table stands for.
func plainPart(word string, r api.Request, x api.Result) []byte {
	switch word {
	case "Flags":
		return binary.BigEndian.AppendUint32(nil, x.Flags)
	case "the command's, if 12 or 13":
		if r.Form.Code != 12 && r.Form.Code != 13 {
			return nil
		}
		k := []byte(r.Cmds[0].Key)
		for len(k) > 65535 {
			k = k[:len(k)-1]
		}
		return k
	case "Value":
		return x.Value
	case "Number":
		return binary.BigEndian.AppendUint64(nil, x.Number)
	case "1":
		return []byte("1")
	}
	return nil
}

// plainEncode is P17.2.
func plainEncode(r api.Request, l []api.Result) []byte {
	if len(r.Cmds) == 0 || len(l) == 0 {
		return nil
	}
	c, x := r.Cmds[0], l[0]
	if r.Form.Quiet {
		if c.Op == api.OGet || c.Op == api.OGat {
			if x.Status == api.SMiss {
				return nil
			}
		} else if plainCode(x.Status) == 0 {
			return nil
		}
	}
	row := table[plainRow(x.Status)]
	extras, key, value := plainPart(row.extras, r, x), plainPart(row.key, r, x), plainPart(row.value, r, x)
	cas := uint64(0)
	if row.cas == "the result's" {
		cas = x.CAS
	}
	b := []byte{129, byte(r.Form.Code)}
	b = binary.BigEndian.AppendUint16(b, uint16(len(key)))
	b = append(b, byte(len(extras)), 0)
	b = binary.BigEndian.AppendUint16(b, plainCode(x.Status))
	b = binary.BigEndian.AppendUint32(b, uint32(len(extras)+len(key)+len(value)))
	b = binary.BigEndian.AppendUint32(b, r.Form.Opaque)
	b = binary.BigEndian.AppendUint64(b, cas)
	return slices.Concat(b, extras, key, value)
}

// plainRead is P17.3.
func plainRead(b []byte) read {
	if len(b) < 24 || b[0] != 129 {
		return read{}
	}
	size := int(binary.BigEndian.Uint32(b[8:]))
	k, x := int(binary.BigEndian.Uint16(b[2:])), int(b[4])
	if size >= 1048576 || len(b) < 24+size || x+k > size {
		return read{}
	}
	s := string(b[24 : 24+size])
	return read{int(b[1]), binary.BigEndian.Uint16(b[6:]), binary.BigEndian.Uint32(b[12:]), binary.BigEndian.Uint64(b[16:]), [3]string{s[:x], s[x : x+k], s[x+k:]}, 24 + size}
}

func wantPlain(t *testing.T, r api.Request, l []api.Result) {
	t.Helper()
	b, want := Encode(r, l), plainEncode(r, l)
	if !slices.Equal(b, want) {
		t.Errorf("Encode(%.300q, %.300q) = % x of %d; want % x", []any{r}, []any{l}, b[:min(len(b), 60)], len(b), want[:min(len(want), 60)])
	}
	if x := readAll(b); len(b) > 0 && x.used != len(b) {
		t.Errorf("% x is read as %.300q", b[:min(len(b), 60)], []any{x})
	}
}

// P17.1, P17.2, P17.4: all kinds of commands, statuses and ways of asking, at the edges of what they carry.
func TestAllAnswersAtTheirEdges(t *testing.T) {
	for op := -1; op <= api.OQuit+1; op++ {
		for status := -2; status <= 13; status++ {
			for _, code := range []int{0, 9, 11, 12, 13, 14, 255, 256, 268} {
				for _, quiet := range []bool{false, true} {
					for _, key := range []string{"", "k", filler(250)} {
						for _, n := range []uint64{0, 1, 1<<64 - 1} {
							r := api.Request{Cmds: []api.Cmd{{Op: op, Key: key, Value: []byte("no"), CAS: 77, Flags: 78}}, Form: api.Form{Code: code, Quiet: quiet, Opaque: uint32(n)}}
							for _, value := range []string{"", "v", "value\r\n"} {
								wantPlain(t, r, []api.Result{{Status: status, Value: []byte(value), Flags: uint32(n), CAS: n, Number: n}})
							}
						}
					}
				}
			}
		}
	}
}

// P17.1 to P17.4: mixed requests and results, the same ones at each run, and their answers one behind the other.
func TestManyMixedAnswers(t *testing.T) {
	r := rand.New(rand.NewSource(17))
	text := func(sizes ...int) string {
		b := make([]byte, sizes[r.Intn(len(sizes))])
		for i := range b {
			b[i] = []byte{0, 1, 255, 129, byte(r.Intn(256))}[r.Intn(5)]
		}
		return string(b)
	}
	told := map[int]int{}
	for range 20000 {
		var all []byte
		var want []read
		for range r.Intn(6) {
			var q api.Request
			for range r.Intn(4) {
				q.Cmds = append(q.Cmds, api.Cmd{Op: r.Intn(19) - 1, Key: text(0, 1, 3, 250, 300), Value: []byte(text(0, 3))})
			}
			q.Form = api.Form{Code: []int{r.Intn(40), 12, 13, r.Intn(2000) - 1000}[r.Intn(4)], Opaque: r.Uint32(), Quiet: r.Intn(2) == 0, Keys: []string{text(1)}}
			var l []api.Result
			for range r.Intn(4) {
				l = append(l, api.Result{Status: r.Intn(14) - 1, Value: []byte(text(0, 1, 5, 1000)), Flags: r.Uint32(), CAS: r.Uint64(), Number: r.Uint64(), TTL: r.Intn(9)})
			}
			wantPlain(t, q, l)
			b := Encode(q, l)
			all = append(all, b...)
			if len(b) > 0 {
				want = append(want, plainRead(b))
				told[l[0].Status]++
			}
		}
		for _, x := range want {
			wantRead(t, all, x)
			all = all[x.used:]
		}
		wantNone(t, all)
	}
	for status := -1; status <= 12; status++ {
		if told[status] < 100 {
			t.Errorf("status %d came up only %d times", status, told[status])
		}
	}
}

// P17.3: heads at their edges, with each number of bytes behind them.
func TestAllHeadsAtTheirEdges(t *testing.T) {
	body := filler(70000)
	for _, first := range []byte{0, 128, 129, 130} {
		for _, x := range []int{0, 1, 4, 254, 255} {
			for _, k := range []int{0, 1, 255, 256, 65535} {
				for _, size := range []int{0, 1, 2, 4, 5, 254, 255, 256, 257, 510, 511, 512, 65535, 65536, 65789, 65790, 65791, 1<<20 - 1, 1 << 20, 1<<32 - 1} {
					for _, there := range []int{-24, -1, 0, 1, size - 1, size, size + 1} {
						if there > len(body) {
							continue
						}
						b := headOf(x, k, size)
						b[0] = first
						b = append(b, body[:max(0, there)]...)[:24+there]
						wantRead(t, b, plainRead(b))
					}
				}
			}
		}
	}
}

// P17.3, R1: any bytes are read, most of which begin nearly as an answer.
func TestManyMixedBytes(t *testing.T) {
	r := rand.New(rand.NewSource(173))
	whole := 0
	for range 200000 {
		b := headOf([]int{0, 1, 4, r.Intn(256)}[r.Intn(4)], []int{0, 1, 3, r.Intn(65536)}[r.Intn(4)], []int{0, r.Intn(10), r.Intn(400), int(r.Uint32())}[r.Intn(4)])
		b = append(b, strings.Repeat("\x81", r.Intn(500))...)
		for range r.Intn(3) {
			b[r.Intn(len(b))] = byte(r.Intn(256))
		}
		b = b[:len(b)-r.Intn(3)]
		x := plainRead(b)
		wantRead(t, b, x)
		if x.used > 0 {
			whole++
		}
	}
	if whole < 20000 {
		t.Errorf("only %d were whole", whole)
	}
}
