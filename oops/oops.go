// Package oops is layer 1: errors that tell a number, a place of a text, and
// within what they were met: see shared/doc/01-oops.md.
package oops

import (
	"errors"
	"slices"
	"strconv"
	"strings"

	"fairlead/api"
)

// Fault is an error's number, and a place of a text.
type Fault struct {
	Code api.Errno
	At   int
}

// Place is an error, and within what it was met.
type Place struct {
	Word string
	Err  error
}

// Error: the number's text, and the place.
func (f *Fault) Error() string {
	if f == nil {
		return ""
	}
	return f.Code.Error() + " at " + strconv.Itoa(f.At)
}

// Unwrap: the number.
func (f *Fault) Unwrap() error {
	if f == nil {
		return nil
	}
	return f.Code
}

// Error: the word, and the inner error's text. It goes down in a loop, so that
// a deep error's text isn't copied anew at each word.
func (p *Place) Error() string {
	var b strings.Builder
	for p != nil {
		b.WriteString(p.Word)
		b.WriteString(": ")
		switch inner := p.Err.(type) {
		case nil:
			p = nil
		case *Place:
			p = inner
		default:
			b.WriteString(inner.Error())
			p = nil
		}
	}
	return b.String()
}

// Unwrap: the inner error.
func (p *Place) Unwrap() error {
	if p == nil {
		return nil
	}
	return p.Err
}

// New: an error of a number, at a place.
func New(code api.Errno, at int) error {
	if code == api.OK {
		return nil
	}
	return &Fault{Code: code, At: at}
}

// In: an error that was met within something.
func In(word string, err error) error {
	if err == nil {
		return nil
	}
	return &Place{Word: word, Err: err}
}

// Code: an error's number.
func Code(err error) api.Errno {
	if err == nil {
		return api.OK
	}
	var code api.Errno
	if !errors.As(err, &code) {
		return api.ErrOther
	}
	return code
}

// Is: has an error that number?
func Is(err error, code api.Errno) bool { return errors.Is(err, code) }

// At: an error's place.
func At(err error) int {
	var f *Fault
	if !errors.As(err, &f) || f == nil {
		return -1
	}
	return f.At
}

// Words: within what an error was met.
func Words(err error) []string {
	var words []string
	var p *Place
	for errors.As(err, &p) && p != nil {
		words = append(words, p.Word)
		err = p.Err
	}
	return words
}

// Same: do both tell the same?
func Same(a, b error) bool {
	if a == nil || b == nil {
		return a == nil && b == nil
	}
	return Code(a) == Code(b) && At(a) == At(b) && slices.Equal(Words(a), Words(b))
}
