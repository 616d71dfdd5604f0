// Package hem: settings in a text, read, asked for, and laid out in one way: see DOC.md.
package hem

import (
	"errors"
	"strings"

	"hem/api"
	"hem/layout"
	"hem/reader"
	"hem/sheet"
	"hem/value"
)

// Doc is settings that were read.
type Doc struct {
	sheet *sheet.Sheet // nil in a Doc that Parse did not make
}

// Parse reads settings (P3).
func Parse(text string) (doc *Doc, err error) {
	defer func() {
		if thrown := recover(); thrown != nil {
			doc, err = nil, faultOf(thrown)
		}
	}()
	return &Doc{sheet: reader.Read(text)}, nil
}

// Paths tells the pairs' full paths (P4).
func (d *Doc) Paths() []string {
	if d.open() != nil {
		return nil
	}
	var paths []string
	for _, pair := range d.sheet.Pairs() {
		paths = append(paths, strings.Clone(pair.Full))
	}
	return paths
}

// Show tells a value's flat text (P4).
func (d *Doc) Show(path string) (string, error) {
	pair, err := d.find(path)
	if err != nil {
		return "", err
	}
	return pair.Value.Flat(), nil
}

// Get gives a value (P5).
func Get[T api.Scalar](d *Doc, path string) (T, error) {
	return ask(d, path, value.Scalar[T])
}

// List gives a list's values (P5).
func List[T api.Scalar](d *Doc, path string) ([]T, error) {
	return ask(d, path, value.Scalars[T])
}

// Format lays the text out (P6).
func (d *Doc) Format(width int) (string, error) {
	if err := d.open(); err != nil {
		return "", err
	}
	if width < api.MinWidth || width > api.MaxWidth {
		return "", &api.Fault{Kind: api.ErrWidth}
	}
	return layout.Lay(d.sheet, width), nil
}

// open tells ErrClosed of a Doc that there is nothing in to ask for.
func (d *Doc) open() error {
	if d == nil || d.sheet == nil {
		return &api.Fault{Kind: api.ErrClosed}
	}
	return nil
}

func (d *Doc) find(path string) (*sheet.Pair, error) {
	if err := d.open(); err != nil {
		return nil, err
	}
	if pair := d.sheet.Find(path); pair != nil {
		return pair, nil
	}
	return nil, &api.Fault{Kind: api.ErrNone}
}

// ask gives a pair's value as what is asked for, or ErrType, if that can't be made of the value.
func ask[A any](d *Doc, path string, made func(value.Value) (A, bool)) (A, error) {
	var none A
	pair, err := d.find(path)
	if err != nil {
		return none, err
	}
	if answer, ok := made(pair.Value); ok {
		return answer, nil
	}
	return none, &api.Fault{Kind: api.ErrType}
}

// faultOf gives the fault with which a reader gave up.
func faultOf(thrown any) error {
	if err, ok := thrown.(error); ok {
		var fault *api.Fault
		if errors.As(err, &fault) {
			return fault
		}
	}
	// No call may panic, not even by a slip of the program. A form's fault has a line: without one it shows the slip.
	return &api.Fault{Kind: api.ErrForm}
}
