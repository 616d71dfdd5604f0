package hem_test

import (
	"fmt"
	"regexp"
	"slices"
	"strings"
	"testing"

	"hem/api"
	"hem/hem"
)

// checkLaidOut holds a text that may be, laid out, against P6 and P7, and gives what was laid out.
func checkLaidOut(t *testing.T, text string, width int) string {
	t.Helper()
	doc := parse(t, text)
	laid, err := doc.Format(width)
	if err != nil {
		t.Fatalf("P6: Format(%d) of %q: %v", width, text, err)
	}
	checkLines(t, text, laid)
	if len(laid) <= api.MaxText {
		checkSame(t, doc, parse(t, laid))
		checkStays(t, laid, width)
	}
	return laid
}

// checkLines: what holds for every text that was laid out, whatever stands in it.
func checkLines(t *testing.T, text, laid string) {
	t.Helper()
	if laid != "" && !strings.HasSuffix(laid, "\n") {
		t.Fatalf("P6: of %q the last line has no end: %q", text, laid)
	}
	if strings.HasPrefix(laid, "\n") || strings.HasSuffix(laid, "\n\n") || strings.Contains(laid, "\n\n\n") {
		t.Fatalf("P6: of %q: too many empty lines: %q", text, laid)
	}
	if strings.Contains(laid, " \n") || strings.Contains(laid, "\t\n") {
		t.Fatalf("P6: of %q: blanks at the end of a line: %q", text, laid)
	}
}

func checkSame(t *testing.T, doc, again *hem.Doc) {
	t.Helper()
	paths := doc.Paths()
	if got := again.Paths(); !slices.Equal(got, paths) {
		t.Fatalf("P7: laid out the paths are %q, want %q", got, paths)
	}
	for _, path := range paths {
		flat, _ := doc.Show(path)
		checkShow(t, again, path, flat)
	}
}

func checkStays(t *testing.T, laid string, width int) {
	t.Helper()
	if again, err := parse(t, laid).Format(width); again != laid || err != nil {
		t.Fatalf("P7: at %d\n%sis laid out once more as (%v)\n%s", width, laid, err, again)
	}
}

// flatList is a line that has a list on it, and not an empty one.
var flatList = regexp.MustCompile(`^(  +|[\w.-]+ *= )\[[^\]]`)

// checkWidths: no list is broken that fits its line, and none that does not fit is left flat.
func checkWidths(t *testing.T, laid string, width int) {
	t.Helper()
	lines := strings.Split(laid, "\n")
	for i, line := range lines {
		if len(line) > width && flatList.MatchString(line) {
			t.Fatalf("P6: a list is wider than %d: %s\nof\n%s", width, line, laid)
		}
		if !strings.HasSuffix(line, "[") {
			continue
		}
		indent := len(line) - len(strings.TrimLeft(line, " "))
		if length, _ := measure(lines, i); indent+length <= width {
			t.Fatalf("P6: at %d line %d is broken, and has %d bytes:\n%s", width, i+1, indent+length, laid)
		}
	}
}

// measure gives the length, on one line and without blanks ahead of it, of what begins in a line, and the line behind it.
func measure(lines []string, at int) (length, next int) {
	length = len(strings.TrimLeft(lines[at], " "))
	if !strings.HasSuffix(lines[at], "[") {
		return length, at + 1
	}
	for at++; !strings.HasPrefix(strings.TrimLeft(lines[at], " "), "]"); {
		var more int
		more, at = measure(lines, at)
		length += more + len(" ")
	}
	return length - len(", ") + len(strings.TrimLeft(lines[at], " ")), at + 1
}

func TestMadeTextsLaidOut(t *testing.T) {
	checked := 0
	for seed := range int64(3000) {
		text := makeText(seed).text.String()
		if len(text) > api.MaxText {
			continue
		}
		for _, width := range []int{api.MinWidth, api.MinWidth + 1 + int(seed%60), api.MaxWidth} {
			laid := checkLaidOut(t, text, width)
			checkWidths(t, laid, width)
			if len(laid) <= api.MaxText {
				checked++
			}
		}
	}
	if checked < 8000 {
		t.Errorf("P7: only %d texts could be read again", checked)
	}
}

// TestLinesOfEachKind goes through all texts of a few lines, and finds by another way which empty lines must be there.
func TestLinesOfEachKind(t *testing.T) {
	kinds := []string{"", " \t", "# x", "[tN]", "aN = 1", "bN = [\n1, 2]  # y"}
	several := regexp.MustCompile(`\n{3,}`)
	closeBehind := regexp.MustCompile(`(?m)^([^#\n].*)\n\[t`)
	for number := range 6 * 6 * 6 * 6 * 6 {
		var lines []string
		for i := range 5 {
			lines = append(lines, strings.ReplaceAll(kinds[number%6], "N", fmt.Sprint(i)))
			number /= 6
		}
		text := strings.Join(lines, "\n")
		want := strings.ReplaceAll(strings.ReplaceAll(text, " \t", ""), "[\n1", "[1")
		want = several.ReplaceAllString(strings.Trim(want, "\n")+"\n", "\n\n")
		for range 2 { // of headers one behind the other, every second one is found at a time
			want = closeBehind.ReplaceAllString(want, "$1\n\n[t")
		}
		if want == "\n" {
			want = ""
		}
		if laid := checkLaidOut(t, text, 20); laid != want {
			t.Fatalf("P6: of %q: %q, want %q", text, laid, want)
		}
	}
}

// TestLaidOutMayBeTooLong: what was laid out has no limit, only what is read.
func TestLaidOutMayBeTooLong(t *testing.T) {
	var text, want strings.Builder
	long := strings.Repeat("x", api.MaxName)
	text.WriteString(long + "=0\n")
	want.WriteString(long + " = 0\n")
	for i := range 300 {
		name := fmt.Sprintf("n%03d", i)
		text.WriteString(name + "=0\n")
		want.WriteString(name + strings.Repeat(" ", api.MaxName-len(name)) + " = 0\n")
	}
	laid, err := parse(t, text.String()).Format(20)
	if laid != want.String() || err != nil || len(laid) <= api.MaxText {
		t.Errorf("P6: Format of many pairs: %d bytes, %v", len(laid), err)
	}
	if _, err := hem.Parse(laid); err == nil {
		t.Error("P3: a text of more than MaxText bytes is read")
	}
}

// TestWidestTexts: the greatest answers are given too, and soon.
func TestWidestTexts(t *testing.T) {
	deep := strings.Repeat("[", api.MaxNest) + strings.Repeat("1,", 1900) + strings.Repeat("]", api.MaxNest)
	laid, err := parse(t, "a="+deep).Format(api.MaxWidth)
	if want := 1900 + 2*api.MaxNest; err != nil || strings.Count(laid, "\n") != want {
		t.Errorf("P6: Format of a great list: %d lines, %v, want %d", strings.Count(laid, "\n"), err, want)
	}
	remark := strings.Repeat("x", api.MaxText-len("# \n"))
	checkFormat(t, "#"+remark, 20, "# "+remark+"\n")
}
