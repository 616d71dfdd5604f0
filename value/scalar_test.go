package value

import (
	"slices"
	"testing"

	"hem/api"
)

// checkScalar: of all values those that are of the type are given, and no other.
func checkScalar[T api.Scalar](t *testing.T, fits map[int]T) {
	t.Helper()
	for i, v := range []Value{Text("x"), Text(""), Number(3), Number(0), Bool(true), Bool(false), List{}, List{Text("x")}, Group{}, Group{{"a", Number(3)}}, nil} {
		want, fit := fits[i]
		if got, ok := Scalar[T](v); got != want || ok != fit {
			t.Errorf("P5: Scalar[%T] of %#v = %v, %v", want, v, got, ok)
		}
	}
}

func TestScalar(t *testing.T) {
	checkScalar(t, map[int]string{0: "x", 1: ""})
	checkScalar(t, map[int]int{2: 3, 3: 0})
	checkScalar(t, map[int]bool{4: true, 5: false})
}

// checkScalars: of all values those that are lists of the type are given, and no other.
func checkScalars[T api.Scalar](t *testing.T, fits map[int][]T) {
	t.Helper()
	for i, v := range []Value{List{Number(1), Number(2)}, List{Bool(true), Bool(false)}, List{Text("x"), Text("")}, List{}, List(nil), List{Number(1), Text("x")}, List{Text("x"), Number(1)}, List{List{}}, List{Number(1), Group{}}, Group{}, Number(1), Text("x"), Bool(true), nil} {
		want, fit := fits[i]
		if got, ok := Scalars[T](v); !slices.Equal(got, want) || ok != fit || !ok && got != nil {
			t.Errorf("P5: Scalars[%T] of %#v = %v, %v", want, v, got, ok)
		}
	}
}

func TestScalars(t *testing.T) {
	checkScalars(t, map[int][]int{0: {1, 2}, 3: {}, 4: {}})
	checkScalars(t, map[int][]bool{1: {true, false}, 3: {}, 4: {}})
	checkScalars(t, map[int][]string{2: {"x", ""}, 3: {}, 4: {}})
}
