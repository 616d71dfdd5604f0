package value

import (
	"strings"

	"hem/api"
)

// Scalar gives a value as what it is outside of this package, and whether it is of the type that is asked for.
func Scalar[T api.Scalar](v Value) (T, bool) {
	var bare any // nothing of a List or a Group: that is of no type
	switch one := v.(type) {
	case Text:
		bare = strings.Clone(string(one)) // what is given out shares no memory with what is kept
	case Number:
		bare = int(one)
	case Bool:
		bare = bool(one)
	}
	scalar, ok := bare.(T)
	return scalar, ok
}

// Scalars gives the values of a List, and whether it is one, all of whose values are of the type that is asked for.
func Scalars[T api.Scalar](v Value) ([]T, bool) {
	list, ok := v.(List)
	if !ok {
		return nil, false
	}
	scalars := make([]T, 0, len(list))
	for _, one := range list {
		scalar, ok := Scalar[T](one)
		if !ok {
			return nil, false
		}
		scalars = append(scalars, scalar)
	}
	return scalars, true
}
