package hem_test

import (
	"slices"
	"strings"
	"testing"

	"hem/api"
	"hem/hem"
)

// parse reads a text that must be fine.
func parse(t *testing.T, text string) *hem.Doc {
	t.Helper()
	doc, err := hem.Parse(text)
	if doc == nil || err != nil {
		t.Fatalf("P3: Parse(%q) = %v, %v", text, doc, err)
	}
	return doc
}

func checkShow(t *testing.T, doc *hem.Doc, path, want string) {
	t.Helper()
	if got, err := doc.Show(path); got != want || err != nil {
		t.Errorf("P4: Show(%q) = %s, %v, want %s", path, got, err, want)
	}
}

func TestPaths(t *testing.T) {
	for _, c := range []struct {
		text string
		want []string
	}{
		{"", nil},
		{"# a = 1\n\n[t]\n", nil},
		{"a = 1", []string{"a"}},
		{"c = 1\na = 1\nb = 1\n", []string{"c", "a", "b"}},
		{"b = 1\nname= \"x\"# it\n\n\n[ t ]\nc=[1,+2,]", []string{"b", "name", "t.c"}},
		{"a.b = 1\n[a]\nc.d = 2\n[ t.u ]\na = 3\na-b = 4", []string{"a.b", "a.c.d", "t.u.a", "t.u.a-b"}},
		{"[t]\n[t.u]\na = 1\n[z]\n[s]\na = {b = {c = 1}}", []string{"t.u.a", "s.a"}},
		{"a = [\n[\n]\n]\nb = 1", []string{"a", "b"}},
		{"[a.b.c.d]\na.b.c.d = 1", []string{"a.b.c.d.a.b.c.d"}},
	} {
		if got := parse(t, c.text).Paths(); !slices.Equal(got, c.want) {
			t.Errorf("P4: Paths of %q = %q, want %q", c.text, got, c.want)
		}
	}
}

func TestPathsOfManyPairs(t *testing.T) {
	var text strings.Builder
	var want []string
	for i := range 26 {
		for j := range 26 {
			name := string([]byte{byte('z' - i), byte('a' + j)})
			text.WriteString(name + "=1\n")
			want = append(want, name)
		}
	}
	if got := parse(t, text.String()).Paths(); !slices.Equal(got, want) {
		t.Errorf("P4: Paths = %q", got)
	}
}

func TestShow(t *testing.T) {
	for _, c := range []struct{ value, want string }{
		{`""`, `""`}, {`"x y"`, `"x y"`}, {`"\"\\\n\t"`, `"\"\\\n\t"`}, {`"\\n"`, `"\\n"`}, {`"# no remark"`, `"# no remark"`}, {`" !~"`, `" !~"`},
		{"0", "0"}, {"+0", "0"}, {"-0", "0"}, {"+1", "1"}, {"-1", "-1"}, {"1_000", "1000"}, {"-1_2_3", "-123"}, {"999999999999999", "999999999999999"}, {"-999_999_999_999_999", "-999999999999999"},
		{"true", "true"}, {"false", "false"},
		{"[]", "[]"}, {"[\n \t]", "[]"}, {"[1]", "[1]"}, {"[1,]", "[1]"}, {"[ +1 ,\n\"x\"\t, true,\n]", `[1, "x", true]`}, {"[[],[[ ]],{ }]", "[[], [[]], {}]"},
		{"{}", "{}"}, {"{\t}", "{}"}, {"{a=1}", "{ a = 1 }"}, {"{b=+1,a =[ 1,\n2 ]\t,c= {d={}} }", "{ b = 1, a = [1, 2], c = { d = {} } }"},
		{"[{a=1},{a=[{}]}]", "[{ a = 1 }, { a = [{}] }]"}, {nested(6), "[{ a = [{ a = [{ a = 1 }] }] }]"},
	} {
		checkShow(t, parse(t, "x="+c.value), "x", c.want)
		checkShow(t, parse(t, "a = 1\n[t]\ny = 2\nx = "+c.value+" # it\nz = 3\n"), "t.x", c.want)
		checkShow(t, parse(t, "x = "+c.want), "x", c.want)
	}
}

func TestShowOfEach(t *testing.T) {
	doc := parse(t, "a = 1\n[t]\na = 2\nb.c = 3\n[t.u]\na = 4")
	for i, path := range []string{"a", "t.a", "t.b.c", "t.u.a"} {
		checkShow(t, doc, path, string(rune('1'+i)))
	}
}

func TestShowNone(t *testing.T) {
	doc := parse(t, "a.b = {c = 1}\n[t]\nd = [1]")
	for _, path := range []string{"", ".", "a", "b", "d", "t", "a.b.c", "a.b.", ".a.b", "a. b", " a.b", "a.b ", "A.b", "a.bb", "t.d.0", "t.a.b", "a.b\x00", "é", "\xff", strings.Repeat("a.", 100000)} {
		flat, err := doc.Show(path)
		fault, ok := err.(*api.Fault)
		if flat != "" || !ok || *fault != (api.Fault{Kind: api.ErrNone}) {
			t.Errorf("P4: Show(%.40q) = %q, %v, want ErrNone", path, flat, err)
		}
	}
	if _, err := parse(t, "").Show(""); err == nil {
		t.Error("P4: Show of an empty text tells no error")
	}
}
