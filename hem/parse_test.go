package hem_test

import (
	"errors"
	"strings"
	"testing"

	"hem/api"
	"hem/hem"
)

// wrong is a text, and what is wrong with it.
type wrong struct {
	text string
	kind api.Kind
	line int
}

func checkWrong(t *testing.T, cases []wrong) {
	t.Helper()
	for _, c := range cases {
		doc, err := hem.Parse(c.text)
		fault, ok := err.(*api.Fault)
		if doc != nil || !ok || *fault != (api.Fault{Kind: c.kind, Line: c.line}) {
			t.Errorf("P3: Parse(%.70q) = %v, %v, want kind %d, line %d", c.text, doc, err, c.kind, c.line)
		}
	}
}

func checkFine(t *testing.T, texts []string) {
	t.Helper()
	for _, text := range texts {
		if doc, err := hem.Parse(text); doc == nil || err != nil {
			t.Errorf("P3: Parse(%.70q) = %v, %v", text, doc, err)
		}
	}
}

// many is a text of n letters.
func many(n int) string { return strings.Repeat("n", n) }

// nested is a value of n lists and groups within one another, a list outermost.
func nested(n int) string {
	value := "1"
	for i := n; i > 0; i-- {
		if i%2 == 1 {
			value = "[" + value + "]"
		} else {
			value = "{a=" + value + "}"
		}
	}
	return value
}

func TestFaultIsWrapped(t *testing.T) {
	_, err := hem.Parse("a = 1\nb = 2\nb = 3\n")
	var fault *api.Fault
	if !errors.As(err, &fault) || fault.Line != 3 {
		t.Errorf("P1: asked for the line: %v", err)
	}
	if !errors.Is(err, api.ErrTwice) || errors.Is(err, api.ErrForm) {
		t.Errorf("P1: asked for the kind: %v", err)
	}
}

func TestLong(t *testing.T) {
	checkFine(t, []string{strings.Repeat("#", 4000), strings.Repeat("\n", 4000), "a = \"" + many(3994) + "\""})
	checkWrong(t, []wrong{
		{strings.Repeat("#", 4001), api.ErrLong, 0},
		{strings.Repeat("\n", 4001), api.ErrLong, 0},
		{strings.Repeat("\r", 4001), api.ErrLong, 0},
		{strings.Repeat("=", 100000), api.ErrLong, 0},
		{"a = \"" + many(3995) + "\"", api.ErrLong, 0},
	})
}

func TestBytes(t *testing.T) {
	for b := range 256 {
		text := "#\n#" + string([]byte{byte(b)})
		if b == 9 || b == 10 || b >= 32 && b <= 126 {
			checkFine(t, []string{text})
		} else {
			checkWrong(t, []wrong{{text, api.ErrByte, 2}})
		}
	}
	checkWrong(t, []wrong{
		{"\x00", api.ErrByte, 1},
		{"a = \"\x1f\"", api.ErrByte, 1},
		{"\r\n", api.ErrByte, 1},
		{"é", api.ErrByte, 1},
		{"\xff", api.ErrByte, 1},
		{"\n\n\x7f", api.ErrByte, 3},
		{"\n\x80\n\x80", api.ErrByte, 2},
		{"]]\na = 1\na = 2\n\x00", api.ErrByte, 4},
		{"a = 1000000000000000\n# \x00", api.ErrByte, 2},
		{"#" + strings.Repeat("\n", 3998) + "\x7f", api.ErrByte, 3999},
	})
}

func TestLines(t *testing.T) {
	checkFine(t, []string{
		"", " ", "\t", "\n", " \n\t", "#", "#x", " # x", "\n\n# x\n", "# [a\n# = \"",
		"a=1", "\ta\t=\t1\t", "a = 1\n", "a = 1#", "a = 1 # x\nb = 2 # y",
		"[a]", "[ a ]", "\t[\ta\t]\t", "[a]#", "[a.b] # x", "[a]\n",
		"true = true", "1 = 1", "- = 1", "_ = 1", "-1 = -1", "09.a-Z_ = 1",
	})
	checkWrong(t, []wrong{
		{"a", api.ErrForm, 1}, {"a ", api.ErrForm, 1}, {"a\n", api.ErrForm, 1}, {"a # = 1", api.ErrForm, 1},
		{"a =", api.ErrForm, 1}, {"a = ", api.ErrForm, 1}, {"a =\n1", api.ErrForm, 1}, {"a\n= 1", api.ErrForm, 1}, {"a = # 1", api.ErrForm, 1},
		{"=", api.ErrForm, 1}, {"= 1", api.ErrForm, 1}, {"a == 1", api.ErrForm, 1}, {"a = = 1", api.ErrForm, 1},
		{"a b = 1", api.ErrForm, 1}, {"a = 1 2", api.ErrForm, 1}, {"a = 1, 2", api.ErrForm, 1}, {"a = 1 b = 2", api.ErrForm, 1}, {"a = 1]", api.ErrForm, 1},
		{"a. = 1", api.ErrForm, 1}, {".a = 1", api.ErrForm, 1}, {"a..b = 1", api.ErrForm, 1}, {"a .b = 1", api.ErrForm, 1}, {"a. b = 1", api.ErrForm, 1}, {"a.\nb = 1", api.ErrForm, 1},
		{"+a = 1", api.ErrForm, 1}, {"a+ = 1", api.ErrForm, 1}, {"a: 1", api.ErrForm, 1}, {"\"a\" = 1", api.ErrForm, 1}, {"{a = 1}", api.ErrForm, 1}, {"; x", api.ErrForm, 1}, {"]", api.ErrForm, 1},
		{"[", api.ErrForm, 1}, {"[]", api.ErrForm, 1}, {"[ ]", api.ErrForm, 1}, {"[a", api.ErrForm, 1}, {"[\na]", api.ErrForm, 1}, {"[a\n]", api.ErrForm, 1}, {"[a #]", api.ErrForm, 1},
		{"[a.]", api.ErrForm, 1}, {"[.a]", api.ErrForm, 1}, {"[a .b]", api.ErrForm, 1}, {"[a b]", api.ErrForm, 1}, {"[[a]]", api.ErrForm, 1}, {"[a]]", api.ErrForm, 1}, {"[a] b", api.ErrForm, 1}, {"[a] = 1", api.ErrForm, 1},
		{"\n\n[a", api.ErrForm, 3}, {"[a]\nb = 1\nc", api.ErrForm, 3}, {"# x\n\n\n=\n\n=", api.ErrForm, 4},
		{strings.Repeat("\n", 3999) + "a", api.ErrForm, 4000},
	})
}

func TestWords(t *testing.T) {
	checkFine(t, []string{
		"a = true", "a = false", "a = 0", "a = +0", "a = -0", "a = 1", "a = +1", "a = -1", "a = 10", "a = 1_0", "a = 1_2_3", "a = 1_00_000",
	})
	for _, word := range []string{
		"True", "TRUE", "tru", "truee", "true1", "true_", "+true", "-false", "fals", "falsee", "x", "null", "_", "_1", "a1",
		"00", "01", "+00", "-01", "0_", "0_1", "1_", "1__2", "1_2_", "1-", "1-2", "1a", "0x1", "1e5", "+", "-", "++1", "--1", "+-1", "-+1", "+_1", "-_1", "--", "+a",
		"+ 1", "- 1", "1 0", "1.5", "1.", ".5", "1+1", "1,", "'x'", "()", "$",
		"1000000000000000x", "99999999999999999999__9",
	} {
		checkWrong(t, []wrong{{"\na = " + word, api.ErrForm, 2}, {"a = [\n" + word + "\n", api.ErrForm, formLineInList(word)}})
	}
}

// formLineInList tells where a wrong word shows in a list that begins ahead of its line and isn't closed.
func formLineInList(word string) int {
	if word == "1," { // fine there: the list's end is what is missing
		return 3
	}
	return 2
}

func TestTexts(t *testing.T) {
	checkFine(t, []string{
		`a = ""`, `a = "x"`, `a = " "`, `a = "#"`, `a = "[{,=}]"`, `a = "\""`, `a = "\\"`, `a = "\n\t"`, `a = "\\n"`, `a = "~"`,
	})
	checkWrong(t, []wrong{
		{`a = "`, api.ErrForm, 1}, {`a = "x`, api.ErrForm, 1}, {"a = \"x\n\"", api.ErrForm, 1}, {"a = [\n\"x\n\"]", api.ErrForm, 2}, {"a = \"\t\"", api.ErrForm, 1},
		{`a = "\`, api.ErrForm, 1}, {"a = \"\\\nn\"", api.ErrForm, 1}, {`a = "\"`, api.ErrForm, 1}, {`a = "\\\"`, api.ErrForm, 1},
		{`a = "\r"`, api.ErrForm, 1}, {`a = "\N"`, api.ErrForm, 1}, {`a = "\ "`, api.ErrForm, 1}, {`a = "\'"`, api.ErrForm, 1}, {"a = \"\\\t\"", api.ErrForm, 1}, {`a = "\0"`, api.ErrForm, 1},
		{`a = "x""y"`, api.ErrForm, 1}, {`a = "x"y`, api.ErrForm, 1}, {`a = x"y"`, api.ErrForm, 1},
	})
}

func TestLists(t *testing.T) {
	checkFine(t, []string{
		"a = []", "a = [ ]", "a = [\n]", "a = [\n\n\t\n]", "a = [1]", "a = [1,]", "a = [1 , ]", "a = [\n1\n,\n2\n,\n]", "a = [1,2]#x\nb = 1", "a = [[],[[]],\n[\n]]", `a = [true, "x", -1, {}, [],]`,
	})
	checkWrong(t, []wrong{
		{"a = [", api.ErrForm, 1}, {"a = [\n", api.ErrForm, 2}, {"a = [1", api.ErrForm, 1}, {"a = [1\n\n", api.ErrForm, 3}, {"a = [1,", api.ErrForm, 1}, {"a = [1,\n", api.ErrForm, 2}, {"\na = [[1]", api.ErrForm, 2},
		{"a = [,]", api.ErrForm, 1}, {"a = [\n,1]", api.ErrForm, 2}, {"a = [1,,]", api.ErrForm, 1}, {"a = [1,\n,]", api.ErrForm, 2}, {"a = [1 2]", api.ErrForm, 1}, {"a = [1\n2]", api.ErrForm, 2}, {"a = [1}", api.ErrForm, 1}, {"a = [1;2]", api.ErrForm, 1},
		{"a = [b = 1]", api.ErrForm, 1}, {"a = [1\n] x", api.ErrForm, 2}, {"a = [1\n]]", api.ErrForm, 2}, {"a = []\n]", api.ErrForm, 2}, {"a\n= []", api.ErrForm, 1}, {"a =\n[]", api.ErrForm, 1},
		{"a = [ # x\n]", api.ErrForm, 1}, {"a = [\n# x\n]", api.ErrForm, 2}, {"a = [1, # x\n2]", api.ErrForm, 1}, {"a = [1\n# x\n]", api.ErrForm, 2},
	})
}

func TestGroups(t *testing.T) {
	checkFine(t, []string{
		"a = {}", "a = { }", "a = {\t}", "a = {b=1}", "a = { b = 1 , c = 2 }", "a = {b={c={}}}", "a = {true = true, 1 = 1, - = 1}", "a = {b = [\n]}", "a = {b = [1,\n2\n], c = [\n{d = 1}\n]}", "a = [\n{b = 1}\n,\n{b = 1}\n]", "a = {a = 1, A = 1, aa = 1}", "a = {a = {a = 1}}",
	})
	checkWrong(t, []wrong{
		{"a = {", api.ErrForm, 1}, {"a = {\n}", api.ErrForm, 1}, {"a = {b = 1\n}", api.ErrForm, 1}, {"a = {b\n= 1}", api.ErrForm, 1}, {"a = {b =\n1}", api.ErrForm, 1}, {"a = {b = 1,\nc = 1}", api.ErrForm, 1}, {"a = {b = 1", api.ErrForm, 1},
		{"a = [\n{\n}]", api.ErrForm, 2}, {"a = [{b = 1,\nc = 2}]", api.ErrForm, 1}, {"a = {b = [\n]\n}", api.ErrForm, 2}, {"a = {b = [\n],\nc = 1}", api.ErrForm, 2}, {"a = {b = [\n{c = 1\n}]}", api.ErrForm, 2},
		{"a = {,}", api.ErrForm, 1}, {"a = {b = 1,}", api.ErrForm, 1}, {"a = {b = 1, }", api.ErrForm, 1}, {"a = {b = 1,, c = 1}", api.ErrForm, 1}, {"a = {b = 1 c = 1}", api.ErrForm, 1}, {"a = {b = 1]", api.ErrForm, 1},
		{"a = {b}", api.ErrForm, 1}, {"a = {b =}", api.ErrForm, 1}, {"a = {= 1}", api.ErrForm, 1}, {"a = {1}", api.ErrForm, 1 /* a name, and no sign of equality */}, {"a = {b.c = 1}", api.ErrForm, 1}, {"a = {\"b\" = 1}", api.ErrForm, 1}, {"a = {b: 1}", api.ErrForm, 1}, {"a = {# x", api.ErrForm, 1},
	})
}

func TestNames(t *testing.T) {
	checkFine(t, []string{
		many(20) + " = 1", "[" + many(20) + "]", "a = {" + many(20) + " = 1}", strings.Repeat(many(20)+".", 3) + many(20) + " = 1",
		"a.b.c.d = 1", "[a.b.c.d]", "[a.b.c.d]\na.b.c.d = 1",
	})
	checkWrong(t, []wrong{
		{many(21) + " = 1", api.ErrRange, 1}, {many(21), api.ErrRange, 1}, {many(21) + "+", api.ErrRange, 1}, {many(4000), api.ErrRange, 1},
		{"a." + many(21) + " = 1", api.ErrRange, 1}, {many(21) + ". = 1", api.ErrRange, 1}, {"\n[" + many(21) + "]", api.ErrRange, 2}, {"[" + many(21), api.ErrRange, 1},
		{"a = {" + many(21) + " = 1}", api.ErrRange, 1}, {"a = [\n{" + many(21), api.ErrRange, 2},
		{"a.b.c.d.e = 1", api.ErrRange, 1}, {"a.b.c.d.e", api.ErrRange, 1}, {"a.b.c.d.e.f = x", api.ErrRange, 1}, {"a.b.c.d.e+", api.ErrRange, 1}, {"\n\n[a.b.c.d.e]", api.ErrRange, 3}, {"[a.b.c.d.e", api.ErrRange, 1},
		{"a.b.c.d.e. = 1", api.ErrForm, 1}, {"[a.b.c.d.e.]", api.ErrForm, 1}, {"a.b.c.d. = 1", api.ErrForm, 1}, // the last name was not read
	})
}

func TestNumbers(t *testing.T) {
	checkFine(t, []string{
		"a = 999999999999999", "a = +999999999999999", "a = -999999999999999", "a = 999_999_999_999_999", "a = 9_9_9_9_9_9_9_9_9_9_9_9_9_9_9",
	})
	checkWrong(t, []wrong{
		{"a = 1000000000000000", api.ErrRange, 1}, {"a = +1000000000000000", api.ErrRange, 1}, {"a = -1000000000000000", api.ErrRange, 1}, {"a = 1_000_000_000_000_000", api.ErrRange, 1},
		{"a = 9223372036854775807", api.ErrRange, 1}, {"a = 9223372036854775808", api.ErrRange, 1}, {"a = 18446744073709551617", api.ErrRange, 1}, {"a = -18446744073709551617", api.ErrRange, 1},
		{"a = " + strings.Repeat("1", 3996), api.ErrRange, 1}, {"a = 1" + strings.Repeat("0", 64), api.ErrRange, 1},
		{"a = [1,\n1000000000000000\n;", api.ErrRange, 2}, {"a = {b = 1000000000000000 ;", api.ErrRange, 1}, {"a = 1\na = 1000000000000000", api.ErrRange, 2},
	})
}

func TestDeep(t *testing.T) {
	checkFine(t, []string{
		"a = " + nested(6), "a = [" + nested(5) + ", " + nested(5) + "]", "a = [[[[[[]]]]]]", "a = {a={a={a={a={a={}}}}}}", "a = [[[[[[],[],{}]]]]]",
	})
	checkWrong(t, []wrong{
		{"a = " + nested(7), api.ErrDeep, 1}, {"a = [[[[[[[]]]]]]]", api.ErrDeep, 1}, {"a = {a={a={a={a={a={a={}}}}}}}", api.ErrDeep, 1},
		{"a = [[[[[[\n[", api.ErrDeep, 2}, {"a = [[[[[[1,\n\n{", api.ErrDeep, 3}, {"\na = [[[[[[{;", api.ErrDeep, 2}, {"a = " + strings.Repeat("[", 3996), api.ErrDeep, 1},
		{"a = [[[[[[;[", api.ErrForm, 1}, {"a = 1\na = [[[[[[[", api.ErrDeep, 2},
	})
}

func TestTwiceInGroup(t *testing.T) {
	checkWrong(t, []wrong{
		{"a = {a = 1, a = 2}", api.ErrTwice, 1}, {"a = {a = 1, b = 2, a", api.ErrTwice, 1}, {"a = {a = 1, a;", api.ErrTwice, 1}, {"a = {a = [\n], a = 1}", api.ErrTwice, 2},
		{"a = [\n{a = 1},\n{a = 1, a = x}]", api.ErrTwice, 3}, {"a = {a = {b = 1, b = 1}}", api.ErrTwice, 1}, {"a = {a = x, a = 1}", api.ErrForm, 1},
	})
}

func TestTwice(t *testing.T) {
	checkFine(t, []string{
		"a.b = 1\n[a]\nc = 2", "a.b = 1\na.c = 2", "a = 1\nab = 2\na-b = 3\nA = 4", "[a.b]\n[a]", "[a]\n[a.b]", "[a]\n[ab]", "[a]\nb = 1\n[c]\nb = 1",
		"[a]\na = 1", "[a]\na.a = 1\n[a.b]", "a.bc = 1\n[a.b]", "[a.bc]\n[a]\nb = 1", "[a]\nb.c = 1\n[a.b]\nd = 2", "[a.b]\nc = 1\n[a]\nd = 1", "[a]\n[b]\na = 1",
	})
	checkWrong(t, []wrong{
		{"a = 1\na = 2", api.ErrTwice, 2}, {"a = 1\na.b = 2", api.ErrTwice, 2}, {"a.b = 1\na = 2", api.ErrTwice, 2}, {"a = 1\na.b.c.d = 2", api.ErrTwice, 2}, {"a.b.c.d = 1\n\na.b = 2", api.ErrTwice, 3},
		{"a = 1\n[a]", api.ErrTwice, 2}, {"a = 1\n[a.b]", api.ErrTwice, 2}, {"a.b = 1\n[a.b]", api.ErrTwice, 2}, {"a.b = 1\n[a.b.c]", api.ErrTwice, 2}, {"a.b = 1\n[a]\nc = 2\n[a]", api.ErrTwice, 4}, {"a.b = 1\n[a]\nc = 2\n[a.b]", api.ErrTwice, 4},
		{"[a]\n[a]", api.ErrTwice, 2}, {"[a]\n[b]\n[ a ]", api.ErrTwice, 3}, {"[a.b]\n[a]\n[a.b]", api.ErrTwice, 3},
		{"[a]\nb = 1\n[a.b]", api.ErrTwice, 3}, {"[a]\nb = 1\n[a.b.c]", api.ErrTwice, 3}, {"[a.b]\n[a]\nb = 1", api.ErrTwice, 3}, {"[a.b.c]\n[a]\nb = 1", api.ErrTwice, 3}, {"a.b = 1\n[a]\nb = 2", api.ErrTwice, 3}, {"a.b = 1\n[a]\nb.c = 2", api.ErrTwice, 3}, {"a.b.c = 1\n[a]\nb = 2", api.ErrTwice, 3},
		{"a = 1\n\na = [\n1,\n2\n]", api.ErrTwice, 3}, {"a = 1\na = [\n1\n] x", api.ErrTwice, 2}, {"a = 1\na = 2 # x", api.ErrTwice, 2}, {"a = 1\na = 2.5", api.ErrTwice, 2}, {"[a]\n[a] x", api.ErrTwice, 2},
		{"a = 1\na = x", api.ErrForm, 2}, {"a = 1\na", api.ErrForm, 2}, {"[a]\n[a", api.ErrForm, 2}, {"a = 1\na = [\n1", api.ErrForm, 3}, {"a = 1 x\na = 1", api.ErrForm, 1}, {"a = 1\na = 1\n;", api.ErrTwice, 2},
	})
}
