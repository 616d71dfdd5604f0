package hem_test

import (
	"math"
	"strings"
	"testing"

	"hem/api"
	"hem/hem"
)

// checkFormat: the text is laid out as wanted, and what was laid out stays as it is.
func checkFormat(t *testing.T, text string, width int, want string) {
	t.Helper()
	for _, given := range []string{text, want} {
		if got, err := parse(t, given).Format(width); got != want || err != nil {
			t.Errorf("P6: Format(%d) of %q: %v\n%swant\n%s", width, given, err, got, want)
		}
	}
}

func TestFormatExamples(t *testing.T) {
	checkFormat(t, "b = 1\nname= \"x\"# it\n\n\n[ t ]\nc=[1,+2,]", 80, "b    = 1\nname = \"x\"  # it\n\n[t]\nc = [1, 2]\n")
	checkFormat(t, "list = [111111, 222222, [3], 444444]", 20, "list = [\n  111111,\n  222222,\n  [3],\n  444444,\n]\n")
}

func TestFormatOfWrongWidths(t *testing.T) {
	for _, doc := range []*hem.Doc{parse(t, "a = 1"), parse(t, "")} {
		for _, width := range []int{math.MinInt, -20, -1, 0, 1, api.MinWidth - 1, api.MaxWidth + 1, 1000, math.MaxInt} {
			text, err := doc.Format(width)
			fault, ok := err.(*api.Fault)
			if text != "" || !ok || *fault != (api.Fault{Kind: api.ErrWidth}) {
				t.Errorf("P6: Format(%d) = %q, %v, want ErrWidth", width, text, err)
			}
		}
	}
}

func TestFormatAtBothEnds(t *testing.T) {
	for width := api.MinWidth; width <= api.MaxWidth; width++ {
		checkFormat(t, "a=1", width, "a = 1\n")
		flat := "a = [1, \"" + strings.Repeat("x", width-len(`a = [1, ""]`)) + "\"]"
		checkFormat(t, flat, width, flat+"\n")
		wide := strings.Replace(flat, "x", "xx", 1)
		_, text, _ := strings.Cut(strings.TrimSuffix(wide, "]"), ", ")
		checkFormat(t, wide, width, "a = [\n  1,\n  "+text+",\n]\n")
	}
}

func TestFormatOfEmptyLines(t *testing.T) {
	for _, c := range []struct{ text, want string }{
		{"", ""},
		{"\n", ""},
		{" \t\n\n\t", ""},
		{"\n\n#\n\n", "#\n"},
		{"\n \na = 1", "a = 1\n"},
		{"a = 1\n\n\t\n", "a = 1\n"},
		{"\n[t]\n", "[t]\n"},
		{"a = 1\n\nb = 2", "a = 1\n\nb = 2\n"},
		{"a = 1\n\n \n\t\n\nb = 2", "a = 1\n\nb = 2\n"},
		{"# x\n\n\n# y\n# z", "# x\n\n# y\n# z\n"},
		{"a = 1\n\n\n# x\n\n\n[t]\n\n\nb = 2", "a = 1\n\n# x\n\n[t]\n\nb = 2\n"},
	} {
		checkFormat(t, c.text, 20, c.want)
	}
}

func TestFormatAheadOfHeaders(t *testing.T) {
	for _, c := range []struct{ text, want string }{
		{"[t]\n[u]", "[t]\n\n[u]\n"},
		{"[t]\n\n[u]", "[t]\n\n[u]\n"},
		{"[t]\n\n\n[u]", "[t]\n\n[u]\n"},
		{"[t] # x\n[u]", "[t]  # x\n\n[u]\n"},
		{"a = 1\n[t]", "a = 1\n\n[t]\n"},
		{"a = 1 # x\n[t]", "a = 1  # x\n\n[t]\n"},
		{"a = [\n1\n]\n[t]", "a = [1]\n\n[t]\n"},
		{"a = [1, \"long enough\"]\n[t]", "a = [\n  1,\n  \"long enough\",\n]\n\n[t]\n"},
		{"# x\n[t]", "# x\n[t]\n"},
		{"#\n[t]", "#\n[t]\n"},
		{"a = 1\n# x\n[t]", "a = 1\n# x\n[t]\n"},
		{"a = 1\n# x\n\n[t]", "a = 1\n# x\n\n[t]\n"},
		{"[t]\na = 1\n# x", "[t]\na = 1\n# x\n"},
	} {
		checkFormat(t, c.text, 20, c.want)
	}
}

func TestFormatOfRemarks(t *testing.T) {
	for remark, want := range map[string]string{
		"#": "#", "# ": "#", "#\t": "#", "# \t \t": "#",
		"#x": "# x", "# x": "# x", "#  x": "#  x", "#x \t": "# x", "# x\t ": "# x", "#x  y": "# x  y",
		"#\tx": "# \tx", "#\t x": "# \t x", "# \tx": "# \tx",
		"##": "##", "##x": "##x", "## ": "##", "### x ": "### x", "# #": "# #", "#x#": "# x#",
		"#\"": "# \"", "#[t]": "# [t]", "#a = 1": "# a = 1", "#~": "# ~", "#!": "# !",
	} {
		checkFormat(t, remark, 20, want+"\n")
		checkFormat(t, " \t"+remark+"\na = 1\n"+remark, 20, want+"\na = 1\n"+want+"\n")
		for _, gap := range []string{"", " ", "\t", "    "} {
			checkFormat(t, "[t]"+gap+remark+"\na = 1", 20, "[t]  "+want+"\na = 1\n")
			checkFormat(t, "a=1"+gap+remark+"\nb = 2", 20, "a = 1  "+want+"\nb = 2\n")
			checkFormat(t, "a=[\n\"long enough\",2]"+gap+remark, 20, "a = [\n  \"long enough\",\n  2,\n]  "+want+"\n")
		}
	}
}

func TestFormatOfHeaders(t *testing.T) {
	checkFormat(t, "\t[ t ] ", 20, "[t]\n")
	checkFormat(t, "[\tt.u-1._._\t]", 20, "[t.u-1._._]\n")
	long := strings.Repeat("a", api.MaxName)
	checkFormat(t, "[ "+long+"."+long+"]#x", 20, "["+long+"."+long+"]  # x\n")
}

func TestFormatOfBlocks(t *testing.T) {
	for _, c := range []struct{ text, want string }{
		{"a=1\nlong.name=2\nbb=3", "a         = 1\nlong.name = 2\nbb        = 3\n"},
		{"long=1\na=2", "long = 1\na    = 2\n"},
		{"long=1\n\na=2\n", "long = 1\n\na = 2\n"},
		{"long=1\n#\na=2\n", "long = 1\n#\na = 2\n"},
		{"long=1#x\na=2 # y\n", "long = 1  # x\na    = 2  # y\n"},
		{"long=1\n[t]\na=2\nbb=3\n[header]\nc=4", "long = 1\n\n[t]\na  = 2\nbb = 3\n\n[header]\nc = 4\n"},
		{"a=[\n\n]\nlong=1", "a    = []\nlong = 1\n"},
		{"a={b=[\n1\n]}\nlong=1", "a    = { b = [1] }\nlong = 1\n"},
		{"a=1\nlong=[1, \"long enough\"]\nbb=3", "a    = 1\nlong = [\n  1,\n  \"long enough\",\n]\nbb   = 3\n"},
		{"a=[1, \"long enough\"]\nlong=1", "a    = [\n  1,\n  \"long enough\",\n]\nlong = 1\n"},
	} {
		checkFormat(t, c.text, 20, c.want)
	}
}

// TestFormatOfWideLists: all that stands in the line counts, and nothing else.
func TestFormatOfWideLists(t *testing.T) {
	for _, c := range []struct{ fits, wide, broken string }{
		{"a = [1, 2, 3, 4, 55]", "a = [1, 2, 3, 4, 555]", "a = [\n  1,\n  2,\n  3,\n  4,\n  555,\n]"},
		{"a = [1, 2, 3]  # rem", "a = [1, 2, 3]  # rema", "a = [\n  1,\n  2,\n  3,\n]  # rema"},
		{"a = [1, 2, 3, 45]  #", "a = [1, 2, 3, 456]  #", "a = [\n  1,\n  2,\n  3,\n  456,\n]  #"},
		{"a         = [1, 234]\nlong.name = 1", "a         = [1, 2345]\nlong.name = 1", "a         = [\n  1,\n  2345,\n]\nlong.name = 1"},
		{"a = [\"\\n\\t\\\\\\\"xxxx\"]", "a = [\"\\n\\t\\\\\\\"xxxxx\"]", "a = [\n  \"\\n\\t\\\\\\\"xxxxx\",\n]"},
		{"[a-long-table]\na = [1, 2, 3, 4, 55]", "[a-long-table]\na = [1, 2, 3, 4, 555]", "[a-long-table]\na = [\n  1,\n  2,\n  3,\n  4,\n  555,\n]"},
	} {
		checkFormat(t, c.fits, 20, c.fits+"\n")
		checkFormat(t, c.wide, 20, c.broken+"\n")
		checkFormat(t, c.wide, 21, c.wide+"\n")
	}
	checkFormat(t, "a = [+1,2_0 , 3, 4,\n5,]  \t", 20, "a = [1, 20, 3, 4, 5]\n")
	checkFormat(t, "a = [1, 2, 3]#\t", 20, "a = [1, 2, 3]  #\n")
}

func TestFormatOfWhatIsNeverBroken(t *testing.T) {
	for _, line := range []string{
		`a = "a text that is wider than twenty bytes"`,
		`a = "a text, wide by its remark"  # and this`,
		`a-name-of-many-bytes = true`,
		`a-name-of-many-bytes = []`,
		`a-name-of-many-bytes = {}`,
		`a = []  # a remark that is wider`,
		`a = { b = 1, c = 2, d = 3, e = 4 }`,
		`a = { b = [1, 2, 3], c = [4, 5, 6, [7]] }  # x`,
	} {
		checkFormat(t, line, 20, line+"\n")
	}
}

func TestFormatOfNestedLists(t *testing.T) {
	for _, c := range []struct{ text, want string }{
		{"a = [[1, 2, 3, 4, 555], 6]", "a = [\n  [1, 2, 3, 4, 555],\n  6,\n]\n"},
		{"a = [[1, 2, 3, 4, 5555], 6]", "a = [\n  [\n    1,\n    2,\n    3,\n    4,\n    5555,\n  ],\n  6,\n]\n"},
		{"a = [[[1, 2, 3, 4, 5]]]", "a = [\n  [[1, 2, 3, 4, 5]],\n]\n"},
		{"a = [[[1, 2, 3, 4, 5], 6]]", "a = [\n  [\n    [1, 2, 3, 4, 5],\n    6,\n  ],\n]\n"},
		{"a = [[[1, 2, 3, 4, 56], 7]]", "a = [\n  [\n    [\n      1,\n      2,\n      3,\n      4,\n      56,\n    ],\n    7,\n  ],\n]\n"},
		{"a = [[], {}, [[]], \"long enough\"]", "a = [\n  [],\n  {},\n  [[]],\n  \"long enough\",\n]\n"},
		{"a = [{b = [1, 2, 3, 4, 5, 6, 7]}, 8]", "a = [\n  { b = [1, 2, 3, 4, 5, 6, 7] },\n  8,\n]\n"},
		{"a = [\"a text that is wider than twenty\"]", "a = [\n  \"a text that is wider than twenty\",\n]\n"},
		{"a = [[\"a text that is wider than twenty\"]]# x", "a = [\n  [\n    \"a text that is wider than twenty\",\n  ],\n]  # x\n"},
		{"a = [[1], [[\"some text that is wide\"], 2], 3]", "a = [\n  [1],\n  [\n    [\n      \"some text that is wide\",\n    ],\n    2,\n  ],\n  3,\n]\n"},
	} {
		checkFormat(t, c.text, 20, c.want)
	}
}

// TestFormatOfDeepLists: as deep as lists may lie.
func TestFormatOfDeepLists(t *testing.T) {
	text := "a = " + strings.Repeat("[", api.MaxNest-1) + "[], \"xxxxxxxxxxxxxxx\"" + strings.Repeat("]", api.MaxNest-1)
	want := "a = [\n  [\n    [\n      [\n        [\n          [],\n          \"xxxxxxxxxxxxxxx\",\n        ],\n      ],\n    ],\n  ],\n]\n"
	checkFormat(t, text, 20, want)
}

func TestFormatIsNewMemory(t *testing.T) {
	for _, text := range []string{"# a remark\n", "a = \"some text\"\n", "[table]\n"} {
		doc := parse(t, text)
		first, _ := doc.Format(20)
		second, _ := doc.Format(20)
		if first != text || second != text || within(first, text) || within(first, second) {
			t.Errorf("P2: %q and %q share memory, or are not %q", first, second, text)
		}
	}
}

func TestFormatKeepsNothingOfTheText(t *testing.T) {
	memory := []byte("[table] # one\nname = [\"text\"] # two\n# three\n")
	doc := parseMemory(t, memory)
	clear(memory)
	want := "[table]  # one\nname = [\"text\"]  # two\n# three\n"
	if got, err := doc.Format(80); got != want || err != nil {
		t.Errorf("P2: Format = %q, %v, want %q", got, err, want)
	}
}

// TestFormatChangesNothing: what was asked ahead of it does not hang on it, nor what is asked behind it.
func TestFormatChangesNothing(t *testing.T) {
	doc := parse(t, "\n\na=[1,\"long enough\"] #x\nbb=2\n[t]\n\n\n")
	wide, narrow := "a  = [1, \"long enough\"]  # x\nbb = 2\n\n[t]\n", "a  = [\n  1,\n  \"long enough\",\n]  # x\nbb = 2\n\n[t]\n"
	for range 2 {
		for width, want := range map[int]string{20: narrow, 27: narrow, 28: wide, 200: wide} {
			if got, err := doc.Format(width); got != want || err != nil {
				t.Errorf("P6: Format(%d) = %q, %v, want %q", width, got, err, want)
			}
		}
		checkShow(t, doc, "a", `[1, "long enough"]`)
	}
}
