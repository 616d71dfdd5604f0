// Package reader: a text made into what stands in it.
package reader

import (
	"strings"

	"hem/api"
	"hem/sheet"
)

// reader is on its way through a text, line by line.
type reader struct {
	cursor
	table   string // the path of the last header; empty ahead of the first
	taken   taken
	entries []sheet.Entry
}

// Read gives what stands in the text. If something is wrong, it panics with an *api.Fault.
func Read(text string) *sheet.Sheet {
	if len(text) > api.MaxText {
		failAt(api.ErrLong, 0)
	}
	checkBytes(text)
	// A copy, as pieces of it are kept: what a caller hands in is not.
	r := reader{cursor: newCursor(strings.Clone(text))}
	for !r.done() {
		r.readLine()
	}
	return &sheet.Sheet{Entries: r.entries}
}

// checkBytes goes ahead of all reading: a wrong byte shows first, wherever it stands.
func checkBytes(text string) {
	c := newCursor(text)
	c.take(mayStand)
	if !c.done() {
		c.fail(api.ErrByte)
	}
}

func (r *reader) readLine() {
	r.blanks()
	entry := r.readEntry()
	r.blanks()
	if r.peek() == '#' {
		r.step()
		entry.TakeRemark(r.take(isInLine))
	}
	r.entries = append(r.entries, entry)
	if !r.done() {
		r.pass('\n')
	}
}

func (r *reader) readEntry() sheet.Entry {
	switch b := r.peek(); {
	case b == '[':
		return r.readHeader()
	case isOfName(b):
		return r.readPair()
	default:
		// What may not begin a line is found where the line must end.
		return &sheet.Bare{}
	}
}

func (r *reader) readHeader() *sheet.Header {
	r.pass('[')
	r.blanks()
	path := r.readPath()
	r.blanks()
	r.pass(']')
	if !r.taken.addHeader(path) {
		r.fail(api.ErrTwice)
	}
	r.table = path
	return &sheet.Header{Path: path}
}

func (r *reader) readPair() *sheet.Pair {
	line := r.line
	path := r.readPath()
	r.blanks()
	r.pass('=')
	r.blanks()
	given := r.readValue(0)
	full := path
	if r.table != "" {
		full = r.table + "." + path
	}
	if !r.taken.addPair(full) {
		failAt(api.ErrTwice, line)
	}
	return &sheet.Pair{Path: path, Full: full, Value: given}
}

func (r *reader) readPath() string {
	start := r.at
	r.readName()
	names := 1
	for r.peek() == '.' {
		r.step()
		r.readName()
		names++
	}
	if names > api.MaxParts {
		r.fail(api.ErrRange)
	}
	return r.text[start:r.at]
}

func (r *reader) readName() string {
	name := r.take(isOfName)
	if name == "" {
		r.fail(api.ErrForm)
	}
	if len(name) > api.MaxName {
		r.fail(api.ErrRange)
	}
	return name
}
