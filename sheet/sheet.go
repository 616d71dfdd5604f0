// Package sheet: what stands in a text, line by line.
package sheet

import "hem/value"

// Tail is what all that stands in a text has in common: the remark behind it.
type Tail struct {
	remark string
	has    bool
}

// TakeRemark keeps a remark: the bytes behind its "#".
func (t *Tail) TakeRemark(remark string) { t.remark, t.has = remark, true }

// TellRemark gives the remark, and whether there is one: a "#" alone is one too.
func (t *Tail) TellRemark() (string, bool) { return t.remark, t.has }

// Entry is a *Header, a *Pair or a *Bare: each is one by the Tail that it embeds.
type Entry interface {
	TakeRemark(remark string)
	TellRemark() (string, bool)
}

// Header is a HEADER.
type Header struct {
	Tail
	Path string
}

// Pair is a PAIR: the path that is written, the full path, and the value.
type Pair struct {
	Tail
	Path  string
	Full  string
	Value value.Value
}

// Bare is a line without header and pair: a remark alone, or nothing.
type Bare struct {
	Tail
}

// Sheet is all that stands in a text.
type Sheet struct {
	Entries []Entry
}

// Pairs gives the pairs, as they stand in the text.
func (s *Sheet) Pairs() []*Pair {
	var pairs []*Pair
	for _, entry := range s.Entries {
		if pair, ok := entry.(*Pair); ok {
			pairs = append(pairs, pair)
		}
	}
	return pairs
}

// Find gives the pair of that full path, or nil.
func (s *Sheet) Find(full string) *Pair {
	for _, pair := range s.Pairs() {
		if pair.Full == full {
			return pair
		}
	}
	return nil
}
