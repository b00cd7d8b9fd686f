package store

import (
	"errors"
	"strconv"

	"coppice/api"
)

// failure is what went wrong, and with what.
type failure struct {
	what string
	err  error
}

// Error tells it.
func (f *failure) Error() string { return "store: " + strconv.Quote(f.what) + ": " + f.err.Error() }

// Unwrap is what went wrong.
func (f *failure) Unwrap() error { return f.err }

// failed is a number as an error inside; there is none where nothing went wrong.
func failed(what string, code api.Errno) error {
	if code == api.OK {
		return nil
	}
	return &failure{what, code}
}

// ready tells whether calls can be done.
func (s *Store) ready() error {
	switch {
	case s == nil:
		return failed("a store", api.ErrNil)
	case s.down:
		return failed("the disk", api.ErrDown)
	}
	return nil
}

// answer is what a call answers. One that met that the power is gone is the last one that did anything.
func (s *Store) answer(err error) api.Errno {
	if errors.Is(err, api.ErrDown) {
		s.down = true
	}
	return api.Code(err)
}
