package query

import (
	"errors"
	"strconv"

	"gristmill/api"
)

const refused = "gristmill: a query that may not be"

// Wrong is what is wrong with a query: where, and which one there.
type Wrong struct {
	Field string
	At    int
}

// Error is a text.
func (w *Wrong) Error() string {
	if w == nil {
		return refused
	}
	return refused + ": " + w.Field + " " + strconv.Itoa(w.At)
}

// Unwrap is api.ErrQuery, of nil too.
func (w *Wrong) Unwrap() error { return api.ErrQuery }

// Code is an error's number: of nil api.OK; of what wraps an api.Errno that; api.ErrArg of others.
func Code(err error) api.Errno {
	if err == nil {
		return api.OK
	}
	return number(err)
}

func number(err error) (code api.Errno) {
	// errors.As calls methods that others wrote: where one of them panics, no number is found.
	defer func() {
		if recover() != nil {
			code = api.ErrArg
		}
	}()
	var found api.Errno
	if !errors.As(err, &found) {
		return api.ErrArg
	}
	return found
}
