// Package layout: what stands in a text, laid out in one way.
package layout

import (
	"strings"

	"hem/sheet"
	"hem/value"
)

// page is a text on its way to be laid out.
type page struct {
	text  strings.Builder
	width int
}

// Lay gives the text of a sheet, with lists on one line where that has at most width bytes.
func Lay(s *sheet.Sheet, width int) string {
	p := page{width: width}
	for entries := spaced(s.Entries); len(entries) > 0; {
		block := firstBlock(entries)
		if len(block) == 0 {
			p.layOther(entries[0])
			entries = entries[1:]
			continue
		}
		p.layBlock(block)
		entries = entries[len(block):]
	}
	return p.text.String()
}

func (p *page) writeLine(line string) {
	p.text.WriteString(line)
	p.text.WriteByte('\n')
}

// layOther lays out what is no pair.
func (p *page) layOther(entry sheet.Entry) {
	line := ""
	if header, ok := entry.(*sheet.Header); ok {
		line = "[" + header.Path + "]"
	}
	p.writeLine(line + remarkBehind(line, entry))
}

func (p *page) layBlock(block []*sheet.Pair) {
	room := 0
	for _, pair := range block {
		room = max(room, len(pair.Path))
	}
	for _, pair := range block {
		start := pair.Path + strings.Repeat(" ", room-len(pair.Path)) + " = "
		p.layValue(start, pair.Value, remarkBehind(start, pair), 0)
	}
}

// layValue lays out a value that lies within so many lists, between what stands ahead of it and behind it.
func (p *page) layValue(ahead string, v value.Value, behind string, depth int) {
	line := ahead + v.Flat() + behind
	list, _ := v.(value.List) // empty, if the value is none: neither is ever broken
	if len(list) == 0 || len(line) <= p.width {
		p.writeLine(line)
		return
	}
	p.writeLine(ahead + "[")
	for _, one := range list {
		p.layValue(indent(depth+1), one, ",", depth+1)
	}
	p.writeLine(indent(depth) + "]" + behind)
}

func indent(depth int) string { return strings.Repeat("  ", depth) }
