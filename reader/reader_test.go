package reader

import (
	"fmt"
	"strings"
	"testing"

	"hem/api"
	"hem/sheet"
)

// tell writes an entry as one word, with its remark behind it.
func tell(entry sheet.Entry) string {
	var word string
	switch one := entry.(type) {
	case *sheet.Header:
		word = "header " + one.Path
	case *sheet.Pair:
		word = "pair " + one.Path + " (" + one.Full + ") " + one.Value.Flat()
	case *sheet.Bare:
		word = "bare"
	}
	if remark, has := entry.TellRemark(); has {
		word += fmt.Sprintf(" %q", remark)
	}
	return word
}

func TestRead(t *testing.T) {
	for _, c := range []struct{ text, want string }{
		{"", ""},
		{"\n", "bare"},
		{" \t", "bare"},
		{"\n\n", "bare; bare"},
		{"#", `bare ""`},
		{"\t# x \n##", `bare " x "; bare "#"`},
		{"a = 1", "pair a (a) 1"},
		{"a = 1\n", "pair a (a) 1"},
		{"a = 1#", `pair a (a) 1 ""`},
		{"a = 1 \t#\tx # y", `pair a (a) 1 "\tx # y"`},
		{"a = \"#\" # x", `pair a (a) "#" " x"`},
		{"[ t.u ] # of t\nb.c = [\n1\n] # end\n\nd = 2", `header t.u " of t"; pair b.c (t.u.b.c) [1] " end"; bare; pair d (t.u.d) 2`},
		{"[t]\n[u]\na = 1", "header t; header u; pair a (u.a) 1"},
	} {
		var words []string
		for _, entry := range Read(c.text).Entries {
			words = append(words, tell(entry))
		}
		if got := strings.Join(words, "; "); got != c.want {
			t.Errorf("Read(%q): %s, want %s", c.text, got, c.want)
		}
	}
}

func TestReadGivesUpByPanic(t *testing.T) {
	defer func() {
		fault, ok := recover().(*api.Fault)
		if !ok || *fault != (api.Fault{Kind: api.ErrForm, Line: 2}) {
			t.Errorf("Read gave up with %v", fault)
		}
	}()
	Read("a = [{b = [1,\n;]}]")
	t.Error("Read did not give up")
}

func TestBegins(t *testing.T) {
	for _, c := range []struct {
		path, head string
		want       bool
	}{
		{"a", "a", true}, {"a.b", "a", true}, {"a.b.c", "a.b", true},
		{"ab", "a", false}, {"a.bc", "a.b", false}, {"a", "a.b", false}, {"b.a", "a", false}, {"a-b", "a", false},
	} {
		if got := begins(c.path, c.head); got != c.want {
			t.Errorf("begins(%q, %q) = %v", c.path, c.head, got)
		}
	}
}
