package hem_test

import (
	"fmt"
	"math/rand"
	"slices"
	"strings"
	"testing"

	"hem/api"
	"hem/hem"
)

// maker writes a text piece by piece, in one of the many ways in which it may be written, and knows what must be read from it.
type maker struct {
	*rand.Rand
	text  strings.Builder
	free  []bool // of each byte: within a TEXT or a REMARK, where any byte of 32 to 126 may come
	names int
	paths []string
	shows map[string]string
}

func (m *maker) put(text string, free bool) {
	m.text.WriteString(text)
	for range text {
		m.free = append(m.free, free)
	}
}

func (m *maker) gap(inList bool) {
	kinds := []string{" ", "\t"}
	if inList {
		kinds = append(kinds, "\n")
	}
	for range m.Intn(3) {
		m.put(kinds[m.Intn(len(kinds))], false)
	}
}

// name makes a name that is no other's, nor another's beginning.
func (m *maker) name() string {
	m.names++
	return fmt.Sprintf("%c%03d", "abZ_-9"[m.Intn(6)], m.names)
}

func (m *maker) path() string {
	names := []string{m.name()}
	for m.Intn(3) == 0 && len(names) < api.MaxParts {
		names = append(names, m.name())
	}
	return strings.Join(names, ".")
}

// value writes a value and gives its flat text.
func (m *maker) value(nest int) string {
	kinds := 3
	if nest < api.MaxNest {
		kinds = 5
	}
	switch m.Intn(kinds) {
	case 0:
		return m.number()
	case 1:
		return m.quoted()
	case 2:
		word := fmt.Sprint(m.Intn(2) == 0)
		m.put(word, false)
		return word
	case 3:
		return m.list(nest + 1)
	default:
		return m.group(nest + 1)
	}
}

func (m *maker) number() string {
	number := m.Intn(10)
	if m.Intn(2) == 0 {
		number = m.Intn(api.MaxInt + 1)
	}
	sign := []string{"", "+", "-"}[m.Intn(3)]
	m.put(sign, false)
	for i, digit := range fmt.Sprint(number) {
		if i > 0 && m.Intn(4) == 0 {
			m.put("_", false)
		}
		m.put(string(digit), false)
	}
	if sign == "-" {
		number = -number
	}
	return fmt.Sprint(number)
}

func (m *maker) quoted() string {
	letters := []string{`\"`, `\\`, `\n`, `\t`, "#", "[", "]", "{", "}", ",", "=", " ", "a", "~", "!", ";"}
	var flat strings.Builder
	m.put("\"", false)
	for range m.Intn(6) {
		letter := letters[m.Intn(len(letters))]
		m.put(letter, true)
		flat.WriteString(letter)
	}
	// The byte at which a TEXT ends is free too: what is put in ahead of it belongs to the text.
	m.put("\"", true)
	return "\"" + flat.String() + "\""
}

func (m *maker) list(nest int) string {
	var flats []string
	m.put("[", false)
	m.gap(true)
	for i := m.Intn(4); i > 0; i-- {
		flats = append(flats, m.value(nest))
		m.gap(true)
		if i > 1 || m.Intn(2) == 0 {
			m.put(",", false)
			m.gap(true)
		}
	}
	m.put("]", false)
	return "[" + strings.Join(flats, ", ") + "]"
}

func (m *maker) group(nest int) string {
	var flats []string
	m.put("{", false)
	m.gap(false)
	for i := m.Intn(3); i > 0; i-- {
		name := m.name()
		m.put(name, false)
		m.gap(false)
		m.put("=", false)
		m.gap(false)
		flats = append(flats, name+" = "+m.value(nest))
		m.gap(false)
		if i > 1 {
			m.put(",", false)
			m.gap(false)
		}
	}
	m.put("}", false)
	if flats == nil {
		return "{}"
	}
	return "{ " + strings.Join(flats, ", ") + " }"
}

func (m *maker) pair(table string) {
	path := m.path()
	m.put(path, false)
	m.gap(false)
	m.put("=", false)
	m.gap(false)
	full := table + path
	m.paths = append(m.paths, full)
	m.shows[full] = m.value(0)
}

func (m *maker) lines() {
	table := ""
	for range m.Intn(8) {
		m.gap(false)
		switch m.Intn(5) {
		case 0:
			path := m.path()
			m.put("[", false)
			m.gap(false)
			m.put(path, false)
			m.gap(false)
			m.put("]", false)
			table = path + "."
		case 1:
		default:
			m.pair(table)
		}
		m.gap(false)
		if m.Intn(3) == 0 {
			m.put("#", false)
			m.put([]string{"", "#", " x", "\ty = [\" "}[m.Intn(4)], true)
			m.put("\n", true) // what is put in ahead of it belongs to the remark
		} else {
			m.put("\n", false)
		}
	}
}

func makeText(seed int64) *maker {
	m := &maker{Rand: rand.New(rand.NewSource(seed)), shows: map[string]string{}}
	m.lines()
	return m
}

func TestMadeTexts(t *testing.T) {
	for seed := range int64(3000) {
		m := makeText(seed)
		text := m.text.String()
		if len(text) > api.MaxText {
			continue
		}
		doc := parse(t, text)
		if paths := doc.Paths(); !slices.Equal(paths, m.paths) {
			t.Fatalf("P4: Paths of %q = %q, want %q", text, paths, m.paths)
		}
		for path, flat := range m.shows {
			checkShow(t, doc, path, flat)
		}
	}
}

// TestCutTexts: a text cut anywhere is fine, or lacks something at its end, in its last line.
func TestCutTexts(t *testing.T) {
	for seed := range int64(300) {
		text := makeText(seed).text.String()
		for cut := range min(len(text), api.MaxText) {
			_, err := hem.Parse(text[:cut])
			want := api.Fault{Kind: api.ErrForm, Line: 1 + strings.Count(text[:cut], "\n")}
			if fault, ok := err.(*api.Fault); err != nil && (!ok || *fault != want) {
				t.Fatalf("P3: Parse(%q) = %v, want nil or %v", text[:cut], err, &want)
			}
		}
	}
}

// TestSpoiltTexts: a byte that stands nowhere but in TEXTs and REMARKs is found in its line.
func TestSpoiltTexts(t *testing.T) {
	for seed := range int64(300) {
		m := makeText(seed)
		text := m.text.String()
		for at := range text {
			if m.free[at] || len(text) >= api.MaxText {
				continue
			}
			_, err := hem.Parse(text[:at] + ";" + text[at:])
			want := api.Fault{Kind: api.ErrForm, Line: 1 + strings.Count(text[:at], "\n")}
			if fault, ok := err.(*api.Fault); !ok || *fault != want {
				t.Fatalf("P3: Parse(%q) = %v, want %v", text[:at]+";"+text[at:], err, &want)
			}
		}
	}
}
