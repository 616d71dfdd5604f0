package layout

import (
	"strings"
	"testing"

	"hem/sheet"
	"hem/value"
)

// remarked gives the entry with a remark.
func remarked[E sheet.Entry](entry E, remark string) E {
	entry.TakeRemark(remark)
	return entry
}

func pair(path string, given value.Value) *sheet.Pair {
	return &sheet.Pair{Path: path, Full: "full." + path, Value: given}
}

func TestLay(t *testing.T) {
	list := value.List{value.Number(1), value.List{value.Text("x"), value.List{}}}
	for _, c := range []struct {
		entries []sheet.Entry
		width   int
		want    string
	}{
		{nil, 20, ""},
		{[]sheet.Entry{&sheet.Bare{}, &sheet.Bare{}}, 20, ""},
		{[]sheet.Entry{remarked(&sheet.Bare{}, "x\t")}, 20, "# x\n"},
		{[]sheet.Entry{&sheet.Header{Path: "t"}, remarked(&sheet.Header{Path: "u"}, " x")}, 20, "[t]\n\n[u]  # x\n"},
		{[]sheet.Entry{pair("a", list), remarked(pair("bb", value.Bool(true)), "")}, 20, "a  = [1, [\"x\", []]]\nbb = true  #\n"},
		{[]sheet.Entry{remarked(pair("a", list), "#")}, 19, "a = [\n  1,\n  [\"x\", []],\n]  ##\n"},
		{[]sheet.Entry{pair("a", list)}, 12, "a = [\n  1,\n  [\"x\", []],\n]\n"},
		{[]sheet.Entry{pair("a", list)}, 11, "a = [\n  1,\n  [\n    \"x\",\n    [],\n  ],\n]\n"},
		{[]sheet.Entry{pair("a", value.Group{{Name: "b", Value: list}})}, 12, "a = { b = [1, [\"x\", []]] }\n"},
	} {
		if got := Lay(&sheet.Sheet{Entries: c.entries}, c.width); got != c.want {
			t.Errorf("P6: Lay at %d:\n%swant\n%s", c.width, got, c.want)
		}
	}
}

func TestLayLeavesTheSheet(t *testing.T) {
	entries := []sheet.Entry{&sheet.Bare{}, pair("a", value.Number(1)), &sheet.Header{Path: "t"}, &sheet.Bare{}}
	kept := append([]sheet.Entry(nil), entries...)
	Lay(&sheet.Sheet{Entries: entries}, 20)
	for i, entry := range entries {
		if entry != kept[i] {
			t.Errorf("P2: entry %d is another", i)
		}
	}
}

func TestTrimmed(t *testing.T) {
	for remark, want := range map[string]string{"": "#", " ": "#", "\t ": "#", "x": "# x", " x ": "# x", "\tx": "# \tx", "#": "##", "#x": "##x", " #": "# #"} {
		if got := trimmed(remark); got != want {
			t.Errorf("P6: trimmed(%q) = %q, want %q", remark, got, want)
		}
		if again := trimmed(strings.TrimPrefix(want, "#")); again != want {
			t.Errorf("P7: trimmed again: %q, want %q", again, want)
		}
	}
}
