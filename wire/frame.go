package wire

import (
	"gristmill/api"
)

const (
	lengthAt = 4 // the sum stands ahead of it
	bodyAt   = 8
)

// Frame is a body with its length and sum.
func Frame(body []byte) ([]byte, api.Errno) {
	if len(body) > api.MaxBytes {
		return nil, api.ErrArg
	}
	b := make([]byte, bodyAt+len(body))
	copy(b[bodyAt:], body)
	setFour(b[lengthAt:bodyAt], uint32(len(body)))
	setFour(b[:lengthAt], Sum(b[lengthAt:]))
	return b, api.OK
}

// Unframe is a frame's body.
func Unframe(b []byte) ([]byte, api.Errno) {
	if len(b) < bodyAt {
		return nil, api.ErrShort
	}
	n := len(b) - bodyAt
	if uint64(four(b[lengthAt:bodyAt])) != uint64(n) || n > api.MaxBytes {
		return nil, api.ErrForm
	}
	if four(b[:lengthAt]) != Sum(b[lengthAt:]) {
		return nil, api.ErrSum
	}
	body := make([]byte, n)
	copy(body, b[bodyAt:])
	return body, api.OK
}

// setFour lays a number into bytes, its lowest byte first.
func setFour(b []byte, n uint32) {
	for at := range b {
		b[at] = byte(n >> (8 * at))
	}
}

// four is the number that setFour laid.
func four(b []byte) uint32 {
	n := uint32(0)
	for at, c := range b {
		n |= uint32(c) << (8 * at)
	}
	return n
}
