package hem_test

import (
	"errors"
	"math"
	"slices"
	"strings"
	"testing"
	"unsafe"

	"hem/api"
	"hem/hem"
)

// checkAnswer holds an answer of Parse against P1.
func checkAnswer(t *testing.T, text string) {
	t.Helper()
	doc, err := hem.Parse(text)
	if err == nil {
		checkShownAgain(t, text, doc)
		checkLaidOut(t, text, api.MinWidth)
		return
	}
	fault, ok := err.(*api.Fault)
	if doc != nil || !ok || fault.Kind < api.ErrLong || fault.Kind > api.ErrTwice || !errors.Is(err, fault.Kind) {
		t.Fatalf("P1: Parse(%q) = %v, %v", text, doc, err)
	}
	if fault.Line < 1 || fault.Line > 1+strings.Count(text, "\n") {
		t.Fatalf("P1: Parse(%q): line %d", text, fault.Line)
	}
}

// checkShownAgain: each flat text is a value that shows as itself.
func checkShownAgain(t *testing.T, text string, doc *hem.Doc) {
	t.Helper()
	if doc == nil {
		t.Fatalf("P1: Parse(%q): no Doc, no error", text)
	}
	for _, path := range doc.Paths() {
		flat, err := doc.Show(path)
		if err != nil {
			t.Fatalf("P4: of %q: Show(%q): %v", text, path, err)
		}
		checkShow(t, parse(t, "x = "+flat), "x", flat)
	}
}

// TestAllShortTexts goes through all texts of a few pieces.
func TestAllShortTexts(t *testing.T) {
	pieces := []string{"a", "1", "-", "+", "_", ".", "=", "\"", "\\", "[", "]", "{", "}", ",", "#", " ", "\n", "true", "\x00"}
	var grow func(text string, more int)
	grow = func(text string, more int) {
		checkAnswer(t, text)
		if more == 0 {
			return
		}
		for _, piece := range pieces {
			grow(text+piece, more-1)
		}
	}
	grow("", 4)
	grow("a=", 4)
	grow("a={b=[", 3)
}

func TestCallsOfNoDoc(t *testing.T) {
	for _, doc := range []*hem.Doc{nil, {}, new(hem.Doc)} {
		if paths := doc.Paths(); len(paths) != 0 {
			t.Errorf("P1: Paths of no Doc: %q", paths)
		}
		for _, path := range []string{"", "a", "\xff"} {
			flat, err := doc.Show(path)
			checkClosed(t, "Show", flat, err)
		}
		for _, width := range []int{math.MinInt, -1, 0, 19, 20, 200, 201, math.MaxInt} {
			text, err := doc.Format(width)
			checkClosed(t, "Format", text, err)
		}
	}
}

func checkClosed[T comparable](t *testing.T, call string, got T, err error) {
	t.Helper()
	var none T
	fault, ok := err.(*api.Fault)
	if got != none || !ok || *fault != (api.Fault{Kind: api.ErrClosed}) {
		t.Errorf("P1: %s of no Doc: %v, %v, want ErrClosed", call, got, err)
	}
}

func TestDocOfEmptyTextIsOpen(t *testing.T) {
	if _, err := parse(t, "").Show("a"); !errors.Is(err, api.ErrNone) {
		t.Errorf("P1: a Doc that Parse made: %v, want ErrNone", err)
	}
}

func TestPathsAreNewMemory(t *testing.T) {
	doc := parse(t, "a = 1\nb = 2\nc = 3")
	want := []string{"a", "b", "c"}
	first, second := doc.Paths(), doc.Paths()
	for i := range first[:cap(first)] {
		first[:cap(first)][i] = "mine"
	}
	if !slices.Equal(second, want) || !slices.Equal(doc.Paths(), want) {
		t.Errorf("P2: Paths shares memory: %q, %q", second, doc.Paths())
	}
	for _, spare := range second[len(second):cap(second)] {
		if spare != "" {
			t.Errorf("P2: spare room holds %q", spare)
		}
	}
	checkShow(t, doc, "a", "1")
}

// within says whether a piece lies in the memory of a whole.
func within(piece, whole string) bool {
	from, start := uintptr(unsafe.Pointer(unsafe.StringData(piece))), uintptr(unsafe.Pointer(unsafe.StringData(whole)))
	return from >= start && from < start+uintptr(len(whole))
}

func TestBytesAreNewMemory(t *testing.T) {
	text := "path = \"some text\"\n[table]\nname = \"text\""
	doc := parse(t, text)
	again := doc.Paths()
	for i, path := range doc.Paths() {
		flat, err := doc.Show(path)
		if err != nil || within(flat, text) || within(path, text) || within(path, again[i]) {
			t.Errorf("P2: %q and %q share memory, or %v", path, flat, err)
		}
	}
}

// parseMemory reads a text in memory that the caller changes afterwards.
func parseMemory(t *testing.T, memory []byte) *hem.Doc {
	t.Helper()
	return parse(t, unsafe.String(&memory[0], len(memory)))
}

func TestTextIsNotKept(t *testing.T) {
	memory := []byte("path = \"text\"\n[table]\nname = {key = 1}")
	doc := parseMemory(t, memory)
	clear(memory)
	if paths := doc.Paths(); !slices.Equal(paths, []string{"path", "table.name"}) {
		t.Errorf("P2: Paths = %q", paths)
	}
	checkShow(t, doc, "path", `"text"`)
	checkShow(t, doc, "table.name", "{ key = 1 }")
}

func TestFaultsAreNewMemory(t *testing.T) {
	doc := parse(t, "a = 1")
	calls := []func() error{
		func() error { _, err := hem.Parse("a"); return err },
		func() error { _, err := hem.Parse(strings.Repeat("#", 4001)); return err },
		func() error { _, err := doc.Show("b"); return err },
		func() error { _, err := new(hem.Doc).Show("b"); return err },
		func() error { _, err := hem.Get[int](doc, "b"); return err },
		func() error { _, err := hem.Get[bool](doc, "a"); return err },
		func() error { _, err := hem.List[int](doc, "a"); return err },
		func() error { _, err := hem.List[int](nil, "a"); return err },
		func() error { _, err := doc.Format(0); return err },
		func() error { _, err := new(hem.Doc).Format(20); return err },
	}
	for i, call := range calls {
		first := call().(*api.Fault)
		want := *first
		*first = api.Fault{Kind: api.ErrDeep, Line: 77}
		if second := call().(*api.Fault); *second != want {
			t.Errorf("P2: call %d: a fault is shared: %v", i, second)
		}
	}
}

func TestDocsKnowNothingOfEachOther(t *testing.T) {
	one := parse(t, "[t]\na = 1")
	two := parse(t, "a = 2\nt = 3")
	if _, err := hem.Parse("[t]\na = 4\na = 5"); !errors.Is(err, api.ErrTwice) {
		t.Errorf("P3: %v", err)
	}
	same := parse(t, "[t]\na = 6")
	checkShow(t, one, "t.a", "1")
	checkShow(t, two, "a", "2")
	checkShow(t, same, "t.a", "6")
	if _, err := one.Show("a"); !errors.Is(err, api.ErrNone) {
		t.Errorf("P2: a Doc knows another's path: %v", err)
	}
}
