package lined

import (
	"reflect"
	"slices"
	"strings"
	"testing"

	"buttery/api"
)

// saying reads all lines alike, and keeps the words of the last one.
func saying(said Said, kept *[]string) func([]string) Said {
	return func(words []string) Said {
		*kept = slices.Clone(words)
		return said
	}
}

// plain is a request of one command.
func plain() api.Request {
	return api.Request{Cmds: []api.Cmd{{Op: api.OSet, Key: "k"}}, Form: api.Form{Verb: "x", Keys: []string{"k"}}}
}

// stored is that one with a value.
func stored(value string) api.Request {
	r := plain()
	r.Cmds[0].Value = []byte(value)
	return r
}

func wantStep(t *testing.T, b string, said Said, want api.Step) {
	t.Helper()
	var words []string
	if p := Parse([]byte(b), saying(said, &words)); !reflect.DeepEqual(p, want) {
		t.Errorf("Parse(%.60q of %d) where %+v is said = %+v; want %+v", b, len(b), said, p, want)
	}
}

// P14.1, P18.1
func TestWordsOfLines(t *testing.T) {
	for b, want := range map[string][]string{
		"\n":                nil,
		"  \r\n":            nil,
		"a\n":               {"a"},
		"  a  bc \r\nd e\n": {"a", "bc"},
		"a\tb\r\r\n":        {"a\tb\r"},
	} {
		words := []string{"none"}
		p := Parse([]byte(b), saying(Said{Req: plain()}, &words))
		if !slices.Equal(words, want) || p.E != api.OK || p.Used != strings.Index(b, "\n")+1 {
			t.Errorf("Parse(%q) = %+v, by the words %q; want %q", b, p, words, want)
		}
	}
}

// P14.1, P18.1: what is no line is not read at all.
func TestWhatIsNoLine(t *testing.T) {
	never := func(words []string) Said {
		t.Errorf("%q were read", words)
		return Said{}
	}
	for b, want := range map[string]api.Step{
		"":                                {E: api.ErrMore},
		"a b\r":                           {E: api.ErrMore},
		strings.Repeat("a", 2049):         {E: api.ErrMore},
		strings.Repeat("a", 2050):         {E: api.ErrForm, Reply: longLine + "\r\n", Used: 2050, Line: true},
		strings.Repeat("a", 2049) + "\nb": {E: api.ErrForm, Reply: longLine + "\r\n", Used: 2050},
	} {
		if p := Parse([]byte(b), never); !reflect.DeepEqual(p, want) {
			t.Errorf("Parse(%.60q of %d) = %+v; want %+v", b, len(b), p, want)
		}
	}
}

// P14.3, P14.4, P18.1, P18.2
func TestFaults(t *testing.T) {
	refused := func(reply string, skip int) api.Step {
		return api.Step{E: api.ErrForm, Reply: reply + "\r\n", Used: 4, Skip: skip}
	}
	wantStep(t, "a b\nc", Said{Fault: NoCommand}, refused("ERROR", 0))
	wantStep(t, "a b\nc", Said{Fault: BadLine, Req: plain()}, refused("CLIENT_ERROR bad command line format", 0))
	wantStep(t, "a b\nc", Said{Fault: BadLine, Size: 5}, refused(BadLine, 0))
	wantStep(t, "a b\nc", Said{Fault: BadLine, Size: 5, Sized: true}, refused(BadLine, 7))
	wantStep(t, "a b\nc", Said{Fault: BadLine, Size: 1 << 30, Sized: true}, refused(BadLine, 1<<30+2))
	wantStep(t, "a b\nc", Said{Fault: BadLine, Size: 1<<30 + 1, Sized: true}, refused(BadLine, 0))
	wantStep(t, "a b\nc", Said{Fault: BadLine, Size: 1001, Sized: true}, refused(BadLine, 1003))
	wantStep(t, "a b\nc", Said{Req: plain(), Size: 1001, Sized: true}, refused("SERVER_ERROR object too large for cache", 1003))
	wantStep(t, "a b\nc", Said{Req: plain(), Size: 1<<64 - 1, Sized: true}, refused(tooLarge, 0))
}

// P14.4, P18.2
func TestBodies(t *testing.T) {
	wantStep(t, "a b\nc", Said{Req: plain(), Size: 1001}, api.Step{Req: plain(), Used: 4})
	wantStep(t, "a b\n\r\nc", Said{Req: plain(), Sized: true}, api.Step{Req: stored(""), Used: 6})
	wantStep(t, "a b\r\nxyz\r\n", Said{Req: plain(), Size: 3, Sized: true}, api.Step{Req: stored("xyz"), Used: 10})
	wantStep(t, "a b\r\nxyz\r", Said{Req: plain(), Size: 3, Sized: true}, api.Step{E: api.ErrMore})
	wantStep(t, "a b\r\nxyz\n\r", Said{Req: plain(), Size: 3, Sized: true}, api.Step{E: api.ErrForm, Reply: "CLIENT_ERROR bad data chunk\r\n", Used: 8, Line: true})
}
