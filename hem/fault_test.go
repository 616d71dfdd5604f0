package hem

import (
	"errors"
	"testing"

	"hem/api"
)

// outer wraps a fault once more.
type outer struct{ error }

func (o outer) Unwrap() error { return o.error }

func TestFaultOf(t *testing.T) {
	fault := &api.Fault{Kind: api.ErrDeep, Line: 3}
	for _, thrown := range []any{fault, outer{fault}} {
		if got := faultOf(thrown); got != error(fault) {
			t.Errorf("P1: faultOf(%v) = %v", thrown, got)
		}
	}
	for _, thrown := range []any{"a slip", 7, errors.New("a slip"), api.ErrDeep} {
		if got, ok := faultOf(thrown).(*api.Fault); !ok || *got != (api.Fault{Kind: api.ErrForm}) {
			t.Errorf("P1: faultOf(%v) = %v", thrown, got)
		}
	}
}
