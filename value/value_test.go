package value

import "testing"

func TestFlat(t *testing.T) {
	for _, c := range []struct {
		given Value
		want  string
	}{
		{Text(""), `""`},
		{Text("a b#[]{},="), `"a b#[]{},="`},
		{Text("\"\\\n\t"), `"\"\\\n\t"`},
		{Text(`\n`), `"\\n"`},
		{Number(0), "0"},
		{Number(-7), "-7"},
		{Number(999999999999999), "999999999999999"},
		{Bool(true), "true"},
		{Bool(false), "false"},
		{List(nil), "[]"},
		{List{Number(1)}, "[1]"},
		{List{Number(1), Text("x"), List{}, Group{}}, `[1, "x", [], {}]`},
		{Group(nil), "{}"},
		{Group{{"a", Number(1)}}, "{ a = 1 }"},
		{Group{{"b", Number(1)}, {"a", Group{{"c", List{Bool(true)}}}}}, "{ b = 1, a = { c = [true] } }"},
	} {
		if got := c.given.Flat(); got != c.want {
			t.Errorf("P4: Flat of %#v = %s, want %s", c.given, got, c.want)
		}
	}
}

func TestHas(t *testing.T) {
	group := Group{{"a", Number(1)}, {"ab", Number(2)}}
	for name, want := range map[string]bool{"a": true, "ab": true, "b": false, "A": false, "": false} {
		if group.Has(name) != want {
			t.Errorf("Has(%q) = %v", name, !want)
		}
	}
}
