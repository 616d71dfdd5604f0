package reader

import (
	"strings"

	"hem/api"
	"hem/value"
)

// readValue reads a value that lies within so many lists and groups.
func (r *reader) readValue(nest int) value.Value {
	switch r.peek() {
	case '"':
		return r.readText()
	case '[':
		r.checkNest(nest)
		return r.readList(nest + 1)
	case '{':
		r.checkNest(nest)
		return r.readGroup(nest + 1)
	default:
		return r.readWord()
	}
}

func (r *reader) checkNest(nest int) {
	if nest >= api.MaxNest {
		r.fail(api.ErrDeep)
	}
}

func (r *reader) readText() value.Text {
	r.pass('"')
	var text strings.Builder
	for r.peek() != '"' {
		text.WriteByte(r.readLetter())
	}
	r.pass('"')
	return value.Text(text.String())
}

func (r *reader) readLetter() byte {
	letter := r.peek()
	if letter < 32 { // a byte 9, the end of the line, the end of the text
		r.fail(api.ErrForm)
	}
	r.step()
	if letter == '\\' {
		return r.readEscaped()
	}
	return letter
}

func (r *reader) readEscaped() byte {
	letter := r.peek()
	switch letter {
	case '"', '\\':
	case 'n':
		letter = '\n'
	case 't':
		letter = '\t'
	default:
		r.fail(api.ErrForm)
	}
	r.step()
	return letter
}

func (r *reader) readList(nest int) value.List {
	var list value.List
	r.pass('[')
	r.take(isBlankInList)
	for r.peek() != ']' {
		list = append(list, r.readValue(nest))
		r.take(isBlankInList)
		if r.peek() != ',' {
			break
		}
		r.step()
		r.take(isBlankInList)
	}
	r.pass(']')
	return list
}

func (r *reader) readGroup(nest int) value.Group {
	var group value.Group
	r.pass('{')
	r.blanks()
	for more := r.peek() != '}'; more; {
		name := r.readMemberName(group)
		group = append(group, value.Member{Name: name, Value: r.readMemberValue(nest)})
		// Unlike in a list, a comma must have a member behind it.
		if more = r.peek() == ','; more {
			r.step()
			r.blanks()
		}
	}
	r.pass('}')
	return group
}

func (r *reader) readMemberName(group value.Group) string {
	name := r.readName()
	if group.Has(name) {
		r.fail(api.ErrTwice)
	}
	return name
}

func (r *reader) readMemberValue(nest int) value.Value {
	r.blanks()
	r.pass('=')
	r.blanks()
	given := r.readValue(nest)
	r.blanks()
	return given
}

// readWord reads `true`, `false` or a number: all that hangs together first, so that the half of a word is none.
func (r *reader) readWord() value.Value {
	start := r.at
	if r.peek() == '+' || r.peek() == '-' {
		r.step()
	}
	r.take(isOfName)
	switch word := r.text[start:r.at]; word {
	case "true":
		return value.Bool(true)
	case "false":
		return value.Bool(false)
	default:
		return r.toNumber(word)
	}
}

func (r *reader) toNumber(word string) value.Number {
	digits, minus := strings.CutPrefix(word, "-")
	if !minus {
		digits = strings.TrimPrefix(word, "+")
	}
	if !areDigits(digits) {
		r.fail(api.ErrForm)
	}
	number := 0
	for _, digit := range []byte(strings.ReplaceAll(digits, "_", "")) {
		number = number*10 + int(digit-'0')
		if number > api.MaxInt { // here, ahead of a wrap-round: digits may be many
			r.fail(api.ErrRange)
		}
	}
	if minus {
		number = -number
	}
	return value.Number(number)
}

// areDigits says whether a number without its sign is written as it must be.
func areDigits(word string) bool {
	if strings.HasPrefix(word, "0") {
		return word == "0"
	}
	for _, part := range strings.Split(word, "_") {
		if part == "" || strings.Trim(part, "0123456789") != "" {
			return false
		}
	}
	return true
}
