package hem_test

import (
	"fmt"
	"math/rand"
	"slices"
	"strconv"
	"strings"
	"testing"

	"hem/api"
	"hem/hem"
)

// checkGet holds Get of one type against what it must answer; kind 0: no error.
func checkGet[T api.Scalar](t *testing.T, doc *hem.Doc, path string, want T, kind api.Kind) {
	t.Helper()
	got, err := hem.Get[T](doc, path)
	if got != want || !isKind(err, kind) {
		t.Errorf("P5: Get[%T](%.40q) = %v, %v, want %v, kind %d", want, path, got, err, want, kind)
	}
}

// checkList holds List of one type against what it must answer; kind 0: no error.
func checkList[T api.Scalar](t *testing.T, doc *hem.Doc, path string, want []T, kind api.Kind) {
	t.Helper()
	got, err := hem.List[T](doc, path)
	if !slices.Equal(got, want) || !isKind(err, kind) || kind != 0 && got != nil {
		t.Errorf("P5: List%T(%.40q) = %v, %v, want %v, kind %d", want, path, got, err, want, kind)
	}
}

func isKind(err error, kind api.Kind) bool {
	if kind == 0 {
		return err == nil
	}
	fault, ok := err.(*api.Fault)
	return ok && *fault == api.Fault{Kind: kind}
}

// checkAll: what all six calls tell of a path, the one that answers apart, is that kind.
func checkAll(t *testing.T, doc *hem.Doc, path string, but string, kind api.Kind) {
	t.Helper()
	for call, check := range map[string]func(){
		"int":      func() { t.Helper(); checkGet(t, doc, path, 0, kind) },
		"bool":     func() { t.Helper(); checkGet(t, doc, path, false, kind) },
		"string":   func() { t.Helper(); checkGet(t, doc, path, "", kind) },
		"[]int":    func() { t.Helper(); checkList[int](t, doc, path, nil, kind) },
		"[]bool":   func() { t.Helper(); checkList[bool](t, doc, path, nil, kind) },
		"[]string": func() { t.Helper(); checkList[string](t, doc, path, nil, kind) },
	} {
		if call != but {
			check()
		}
	}
}

// givenDoc: a value given to a pair among others, by a full path of several names.
func givenDoc(t *testing.T, given string) *hem.Doc {
	t.Helper()
	return parse(t, "a = 1\nb = \"x\"\n[t]\na = true\nu.v ="+given+"# it\nw = [2]\n")
}

func TestGetInt(t *testing.T) {
	for given, want := range map[string]int{
		"0": 0, "+0": 0, "-0": 0, "7": 7, "+7": 7, "-7": -7, "1_000": 1000, "-1_2_3": -123,
		"999999999999999": 999999999999999, "-999_999_999_999_999": -999999999999999,
	} {
		doc := givenDoc(t, given)
		checkGet(t, doc, "t.u.v", want, 0)
		checkAll(t, doc, "t.u.v", "int", api.ErrType)
	}
}

func TestGetBool(t *testing.T) {
	for given, want := range map[string]bool{"true": true, "false": false} {
		doc := givenDoc(t, given)
		checkGet(t, doc, "t.u.v", want, 0)
		checkAll(t, doc, "t.u.v", "bool", api.ErrType)
	}
}

func TestGetString(t *testing.T) {
	for given, want := range map[string]string{
		`""`: "", `"x y"`: "x y", `"\"\\\n\t"`: "\"\\\n\t", `"\\n"`: `\n`, `"# no remark"`: "# no remark", `" !~"`: " !~",
		`"1"`: "1", `"true"`: "true", `"[]"`: "[]", `"` + strings.Repeat("n", 3900) + `"`: strings.Repeat("n", 3900),
	} {
		doc := givenDoc(t, given)
		checkGet(t, doc, "t.u.v", want, 0)
		checkAll(t, doc, "t.u.v", "string", api.ErrType)
	}
}

func TestListInt(t *testing.T) {
	for given, want := range map[string][]int{
		"[0]": {0}, "[1,]": {1}, "[2, 1, 2]": {2, 1, 2}, "[\n+1_0 ,\n-5,\n]": {10, -5}, "[999999999999999, -999999999999999]": {999999999999999, -999999999999999},
	} {
		doc := givenDoc(t, given)
		checkList(t, doc, "t.u.v", want, 0)
		checkAll(t, doc, "t.u.v", "[]int", api.ErrType)
	}
}

func TestListBool(t *testing.T) {
	for given, want := range map[string][]bool{
		"[false]": {false}, "[true,]": {true}, "[true, false,\n\tfalse]": {true, false, false},
	} {
		doc := givenDoc(t, given)
		checkList(t, doc, "t.u.v", want, 0)
		checkAll(t, doc, "t.u.v", "[]bool", api.ErrType)
	}
}

func TestListString(t *testing.T) {
	for given, want := range map[string][]string{
		`[""]`: {""}, `["x",]`: {"x"}, `["\n", "", "\\n", "1", "true", "# ,"]`: {"\n", "", `\n`, "1", "true", "# ,"},
	} {
		doc := givenDoc(t, given)
		checkList(t, doc, "t.u.v", want, 0)
		checkAll(t, doc, "t.u.v", "[]string", api.ErrType)
	}
}

func TestListOfNothing(t *testing.T) {
	for _, given := range []string{"[]", "[ \t\n]"} {
		doc := givenDoc(t, given)
		checkList(t, doc, "t.u.v", []int{}, 0)
		checkList(t, doc, "t.u.v", []bool{}, 0)
		checkList(t, doc, "t.u.v", []string{}, 0)
		checkGet(t, doc, "t.u.v", 0, api.ErrType)
		checkGet(t, doc, "t.u.v", false, api.ErrType)
		checkGet(t, doc, "t.u.v", "", api.ErrType)
	}
}

func TestListOfMany(t *testing.T) {
	var want []int
	for i := range 1000 {
		want = append(want, i%10)
	}
	given := strings.ReplaceAll(strings.Trim(fmt.Sprint(want), "[]"), " ", ",")
	checkList(t, parse(t, "x=["+given+"]"), "x", want, 0)
}

func TestValuesOfNoType(t *testing.T) {
	for _, given := range []string{
		"{}", "{a=1}", `{a="x"}`, "{a=[1]}", "{a = true, b = false}",
		"[[]]", "[[1]]", "[[], []]", "[{}]", "[{a=1}]", "[{a=1}, {a=2}]",
		"[1, true]", "[true, 1]", `[1, "x"]`, `["x", 1]`, `[true, "x"]`, `["x", true]`, `[1, true, "x"]`,
		"[1, 2, []]", "[[], 1, 2]", "[1, [2], 3]", "[1, {}, 3]", "[true, []]", "[{}, true]", `["x", []]`, `["x", "y", {}]`, `[[1, 2], 3]`,
	} {
		checkAll(t, givenDoc(t, given), "t.u.v", "", api.ErrType)
	}
}

// TestListWithOneOther: one value of another type, wherever it stands among those of the type.
func TestListWithOneOther(t *testing.T) {
	scalars := []string{"7", "true", `"x"`}
	others := append([]string{"[]", "[7]", "{}", "{a=7}"}, scalars...)
	for _, scalar := range scalars {
		for _, other := range others {
			for at := range 5 {
				list := []string{scalar, scalar, scalar, scalar, scalar}
				list[at] = other
				if other != scalar {
					checkAll(t, parse(t, "x = ["+strings.Join(list, ", ")+"]"), "x", "", api.ErrType)
				}
			}
		}
	}
}

func TestGetAndListNone(t *testing.T) {
	doc := parse(t, "a.b = {c = 1}\n[t]\nd = [1]\nn = 1")
	for _, path := range []string{"", ".", "a", "b", "d", "n", "t", "a.b.c", "a.b.", ".a.b", "a. b", " t.n", "t.n ", "T.n", "t.nn", "t.d.0", "t.a.b", "t.n\x00", "t.n\n", "\xff", strings.Repeat("a.", 100000)} {
		checkAll(t, doc, path, "", api.ErrNone)
	}
	checkAll(t, parse(t, ""), "", "", api.ErrNone)
	checkAll(t, parse(t, "[t]"), "t", "", api.ErrNone)
}

func TestGetAndListOfNoDoc(t *testing.T) {
	for _, doc := range []*hem.Doc{nil, {}, new(hem.Doc)} {
		for _, path := range []string{"", "a", "t.n", "\xff"} {
			checkAll(t, doc, path, "", api.ErrClosed)
		}
	}
}

func TestGetOfEach(t *testing.T) {
	doc := parse(t, "a = 1\n[t]\na = 2\nb.c = 3\n[t.u]\na = 4\nl = [5]")
	for i, path := range []string{"a", "t.a", "t.b.c", "t.u.a"} {
		checkGet(t, doc, path, i+1, 0)
	}
	checkList(t, doc, "t.u.l", []int{5}, 0)
}

func TestGetOfTwoDocs(t *testing.T) {
	one, two := parse(t, "a = 1\nl = [1]"), parse(t, "a = 2\nl = [2]")
	checkGet(t, one, "a", 1, 0)
	checkGet(t, two, "a", 2, 0)
	checkList(t, one, "l", []int{1}, 0)
	checkList(t, two, "l", []int{2}, 0)
}

// checkOwnList: what is done to a list that came out, up to its spare room, is to be seen nowhere else.
func checkOwnList[T api.Scalar](t *testing.T, doc *hem.Doc, path string, other T) {
	t.Helper()
	first, _ := hem.List[T](doc, path)
	second, _ := hem.List[T](doc, path)
	shown, _ := doc.Show(path)
	want := slices.Clone(first)
	var none T
	for _, spare := range first[len(first):cap(first)] {
		if spare != none {
			t.Errorf("P2: spare room of %T holds %v", first, spare)
		}
	}
	first = first[:cap(first)]
	for i := range first {
		first[i] = other
	}
	if !slices.Equal(second, want) {
		t.Errorf("P2: two lists share memory: %v, want %v", second, want)
	}
	checkList(t, doc, path, want, 0)
	checkShow(t, doc, path, shown)
}

func TestListsAreNewMemory(t *testing.T) {
	for count := range 20 {
		doc := parse(t, "n = ["+strings.Repeat("1,", count)+"]\nb = ["+strings.Repeat("true,", count)+"]\ns = ["+strings.Repeat(`"x",`, count)+"]")
		checkOwnList(t, doc, "n", 2)
		checkOwnList(t, doc, "b", false)
		checkOwnList(t, doc, "s", "y")
	}
}

func TestStringsAreNewMemory(t *testing.T) {
	text := "s = \"some text\"\nl = [\"other text\", \"third text\"]"
	doc := parse(t, text)
	one, _ := hem.Get[string](doc, "s")
	two, _ := hem.Get[string](doc, "s")
	if within(one, text) || within(one, two) {
		t.Errorf("P2: %q shares memory", one)
	}
	ones, _ := hem.List[string](doc, "l")
	twos, _ := hem.List[string](doc, "l")
	for i := range ones {
		if within(ones[i], text) || within(ones[i], twos[i]) {
			t.Errorf("P2: %q shares memory", ones[i])
		}
	}
}

func TestGetOfTextThatIsGone(t *testing.T) {
	memory := []byte("s = \"text\"\nl = [\"x\", \"y\"]")
	doc := parseMemory(t, memory)
	clear(memory)
	checkGet(t, doc, "s", "text", 0)
	checkList(t, doc, "l", []string{"x", "y"}, 0)
}

// scalarOf gives the flat text of a scalar as Go's own reading has it, or nil.
func scalarOf(flat string) any {
	if flat[0] == '"' {
		text, _ := strconv.Unquote(flat)
		return text
	}
	if number, err := strconv.Atoi(flat); err == nil {
		return number
	}
	if truth, err := strconv.ParseBool(flat); err == nil {
		return truth
	}
	return nil
}

// checkGetAs: Get of a type answers what is of that type, and ErrType else.
func checkGetAs[T api.Scalar](t *testing.T, doc *hem.Doc, path string, known any) {
	t.Helper()
	if want, ok := known.(T); ok {
		checkGet(t, doc, path, want, 0)
	} else {
		checkGet(t, doc, path, want, api.ErrType)
	}
}

// checkListAs: List of a type answers what is all of that type, and ErrType else.
func checkListAs[T api.Scalar](t *testing.T, doc *hem.Doc, path string, known []any) {
	t.Helper()
	var want []T
	for _, one := range known {
		scalar, ok := one.(T)
		if !ok {
			checkList[T](t, doc, path, nil, api.ErrType)
			return
		}
		want = append(want, scalar)
	}
	checkList(t, doc, path, want, 0)
}

// TestGetOfMadeTexts: what Get answers is what Show tells.
func TestGetOfMadeTexts(t *testing.T) {
	for seed := range int64(1000) {
		m := makeText(seed)
		text := m.text.String()
		if len(text) > api.MaxText {
			continue
		}
		doc := parse(t, text)
		for path, flat := range m.shows {
			known := scalarOf(flat)
			checkGetAs[int](t, doc, path, known)
			checkGetAs[bool](t, doc, path, known)
			checkGetAs[string](t, doc, path, known)
		}
	}
}

// TestListOfMadeLists: lists of some values, mostly of one type, with what is known of each.
func TestListOfMadeLists(t *testing.T) {
	for seed := range int64(2000) {
		chance := rand.New(rand.NewSource(seed))
		kind := chance.Intn(3)
		var flats []string
		var known []any
		for range chance.Intn(6) {
			choice := [][]string{{"0", "-3", "12"}, {"true", "false"}, {`""`, `"a\n"`, `"7"`}}[kind]
			if chance.Intn(8) == 0 {
				choice = []string{"5", "true", `"x"`, "[]", "{ a = 1 }"}
			}
			one := choice[chance.Intn(len(choice))]
			flats = append(flats, one)
			known = append(known, scalarOf(one))
		}
		doc := parse(t, "x = ["+strings.Join(flats, ",\n")+"]")
		checkListAs[int](t, doc, "x", known)
		checkListAs[bool](t, doc, "x", known)
		checkListAs[string](t, doc, "x", known)
	}
}
