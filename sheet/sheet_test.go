package sheet

import (
	"testing"

	"hem/value"
)

func TestRemarkIsPromoted(t *testing.T) {
	for _, entry := range []Entry{&Header{}, &Pair{}, &Bare{}} {
		if remark, has := entry.TellRemark(); remark != "" || has {
			t.Errorf("%T: a remark that nothing took: %q", entry, remark)
		}
		entry.TakeRemark("")
		if remark, has := entry.TellRemark(); remark != "" || !has {
			t.Errorf("%T: an empty remark: %q, %v", entry, remark, has)
		}
		entry.TakeRemark(" x ")
		if remark, has := entry.TellRemark(); remark != " x " || !has {
			t.Errorf("%T: a remark: %q, %v", entry, remark, has)
		}
	}
}

func TestPairs(t *testing.T) {
	b := &Pair{Path: "b", Full: "b", Value: value.Number(1)}
	a := &Pair{Path: "a", Full: "t.a", Value: value.Number(2)}
	s := &Sheet{Entries: []Entry{&Bare{}, b, &Header{Path: "t"}, a, &Bare{}}}
	if pairs := s.Pairs(); len(pairs) != 2 || pairs[0] != b || pairs[1] != a {
		t.Errorf("Pairs() = %v", pairs)
	}
	for full, want := range map[string]*Pair{"b": b, "t.a": a, "a": nil, "t": nil, "": nil, "t.b": nil} {
		if got := s.Find(full); got != want {
			t.Errorf("Find(%q) = %v, want %v", full, got, want)
		}
	}
	if pairs := new(Sheet).Pairs(); len(pairs) != 0 {
		t.Errorf("of an empty sheet: %v", pairs)
	}
}
