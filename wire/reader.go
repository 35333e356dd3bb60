package wire

import (
	"gristmill/api"
)

// Reader reads what was written, from the left to the right.
type Reader struct {
	left []byte
	err  api.Errno // the first one; nothing is left behind it
}

// Read is a reader of bytes.
func Read(b []byte) *Reader { return &Reader{left: b} }

// Uint is the next number from 0 on; 0 behind an error.
func (r *Reader) Uint() uint64 {
	if r == nil {
		return 0
	}
	n := uint64(0)
	for at, c := range r.left {
		if at == mostOfUint-1 && c > 1 || at > 0 && c == 0 {
			r.fail(api.ErrForm)
			return 0
		}
		n |= uint64(c&^more) << (bitsEach * at)
		if c < more {
			r.left = r.left[at+1:]
			return n
		}
	}
	r.fail(api.ErrShort)
	return 0
}

// Int is the next number.
func (r *Reader) Int() int64 { return unfolded(r.Uint()) }

// Text is the next text.
func (r *Reader) Text() string {
	n := r.Count(1)
	if n == 0 {
		return ""
	}
	s := string(r.left[:n])
	r.left = r.left[n:]
	return s
}

// Count is the next number, if so many things of at least so many bytes each may follow.
func (r *Reader) Count(least int) int {
	n := r.Uint()
	// Divided, not multiplied: the product might turn round.
	if n > uint64(r.Left()/max(least, 1)) {
		r.fail(api.ErrShort)
		return 0
	}
	return int(n)
}

// Left is how many bytes are left.
func (r *Reader) Left() int {
	if r == nil {
		return 0
	}
	return len(r.left)
}

// End is the first error; ErrForm, if bytes are left.
func (r *Reader) End() api.Errno {
	switch {
	case r == nil:
		return api.ErrArg
	case r.err != api.OK:
		return r.err
	case len(r.left) > 0:
		return api.ErrForm
	}
	return api.OK
}

// fail keeps the first error alone, and leaves nothing that might still be read.
func (r *Reader) fail(e api.Errno) {
	if r.err == api.OK {
		r.err = e
	}
	r.left = nil
}

// whole is the next number, as an int.
func (r *Reader) whole() int { return int(r.Int()) }

// yes is the next byte, which says true or false.
func (r *Reader) yes() bool {
	if len(r.left) == 0 {
		r.fail(api.ErrShort)
		return false
	}
	c := r.left[0]
	if c > 1 {
		r.fail(api.ErrForm)
		return false
	}
	r.left = r.left[1:]
	return c == 1
}
