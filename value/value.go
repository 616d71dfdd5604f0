// Package value: what a pair may be given, and the flat text of it.
package value

import (
	"strconv"
	"strings"
)

// Value is a Text, a Number, a Bool, a List or a Group.
type Value interface {
	// Flat tells the value on one line, in the one way in which it is told.
	Flat() string
}

// Text is a TEXT, its bytes as they are meant, not as they are written.
type Text string

// Number is a NUMBER.
type Number int

// Bool is `true` or `false`.
type Bool bool

// List is a LIST.
type List []Value

// Group is a GROUP, its members as they stand in the text.
type Group []Member

// Member is a name in a group, and what it was given.
type Member struct {
	Name  string
	Value Value
}

func (t Text) Flat() string {
	var flat strings.Builder
	flat.WriteByte('"')
	for _, letter := range []byte(t) {
		writeLetter(&flat, letter)
	}
	flat.WriteByte('"')
	return flat.String()
}

func writeLetter(flat *strings.Builder, letter byte) {
	switch letter {
	case '"', '\\':
		flat.WriteByte('\\')
		flat.WriteByte(letter)
	case '\n':
		flat.WriteString(`\n`)
	case '\t':
		flat.WriteString(`\t`)
	default:
		flat.WriteByte(letter)
	}
}

func (n Number) Flat() string { return strconv.Itoa(int(n)) }

func (b Bool) Flat() string { return strconv.FormatBool(bool(b)) }

func (l List) Flat() string {
	flats := make([]string, 0, len(l))
	for _, one := range l {
		flats = append(flats, one.Flat())
	}
	return "[" + strings.Join(flats, ", ") + "]"
}

func (g Group) Flat() string {
	if len(g) == 0 {
		return "{}"
	}
	flats := make([]string, 0, len(g))
	for _, one := range g {
		flats = append(flats, one.Name+" = "+one.Value.Flat())
	}
	return "{ " + strings.Join(flats, ", ") + " }"
}

// Has says whether a member of that name stands in the group.
func (g Group) Has(name string) bool {
	for _, one := range g {
		if one.Name == name {
			return true
		}
	}
	return false
}
