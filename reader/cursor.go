package reader

import "hem/api"

// end is what peek tells at the end of the text: a byte that no text may hold.
const end = 0

// cursor goes through a text and knows the line that it is in.
type cursor struct {
	text string
	at   int
	line int
}

func newCursor(text string) cursor { return cursor{text: text, line: 1} }

func (c *cursor) done() bool { return c.at == len(c.text) }

func (c *cursor) peek() byte {
	if c.done() {
		return end
	}
	return c.text[c.at]
}

func (c *cursor) step() {
	if c.text[c.at] == '\n' {
		c.line++
	}
	c.at++
}

// take steps on as long as keep holds, and gives what it passed.
func (c *cursor) take(keep func(byte) bool) string {
	start := c.at
	for !c.done() && keep(c.text[c.at]) {
		c.step()
	}
	return c.text[start:c.at]
}

// pass steps over the byte that must stand here.
func (c *cursor) pass(must byte) {
	if c.peek() != must {
		c.fail(api.ErrForm)
	}
	c.step()
}

func (c *cursor) blanks() { c.take(isBlank) }

// fail gives up, in the line that was come to.
func (c *cursor) fail(kind api.Kind) { failAt(kind, c.line) }

// failAt panics: from deep inside values no reader needs to hand an error up.
func failAt(kind api.Kind, line int) { panic(&api.Fault{Kind: kind, Line: line}) }

func mayStand(b byte) bool { return b == '\t' || b == '\n' || b >= 32 && b <= 126 }

func isBlank(b byte) bool { return b == ' ' || b == '\t' }

func isBlankInList(b byte) bool { return isBlank(b) || b == '\n' }

func isInLine(b byte) bool { return b != '\n' }

func isOfName(b byte) bool {
	return b >= 'a' && b <= 'z' || b >= 'A' && b <= 'Z' || b >= '0' && b <= '9' || b == '_' || b == '-'
}
