package blob

import (
	"bytes"

	"gristmill/api"
	"gristmill/wire"
)

// stop is thrown out of the steps of a Put that goes no further.
type stop struct {
	code api.Errno
}

// Put writes a blob.
func (s *Store) Put(name string, b []byte) (code api.Errno) {
	defer func() {
		if thrown := recover(); thrown != nil {
			code = codeOf(thrown)
		}
	}()
	need(s.refuses(name))
	framed, code := wire.Frame(b)
	need(code)
	if s.holds(name, b) {
		return api.OK
	}
	s.write(name, framed)
	return api.OK
}

// holds tells whether the blob is there already, with just these bytes; where it is there with others, a Put stops.
func (s *Store) holds(name string, b []byte) bool {
	there, code := s.Get(name)
	if code == api.ErrNone {
		return false
	}
	if code != api.OK || !bytes.Equal(there, b) {
		panic(stop{api.ErrTwice})
	}
	return true
}

// write lays a blob's frame into its file by way of its draft, so that the file is there only when all of it is synced.
func (s *Store) write(name string, framed []byte) {
	draft := draftMark + name
	if code := s.disk.Remove(draft); code != api.ErrNone {
		need(code)
	}
	need(s.disk.Append(draft, framed))
	need(s.disk.Sync(draft))
	need(s.disk.Rename(draft, fileMark+name))
}

// need throws what stops a Put.
func need(code api.Errno) {
	if code != api.OK {
		panic(stop{code})
	}
}

// codeOf is what was thrown by need.
func codeOf(thrown any) api.Errno {
	return thrown.(stop).code
}
