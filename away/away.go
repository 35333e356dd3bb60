// Package away calls the book and the deep storage. Nodes know nothing of what stands behind them: one that is nil, or
// that panics, leaves unknown what it did, as one of somebody who is away does.
package away

import (
	"slices"

	"gristmill/api"
)

// State is what a book tells.
func State(b api.Book) (state api.State, code api.Errno) {
	code = guarded(func() (code api.Errno) {
		state, code = b.State()
		return code
	})
	if code != api.OK {
		return api.State{}, code
	}
	return state, api.OK
}

// Do asks a transaction of a book. What it answers beside the code is told by State.
func Do(b api.Book, t api.Txn) api.Errno {
	return guarded(func() api.Errno {
		_, code := b.Do(t)
		return code
	})
}

// Elect lets a node lead: the state that a book tells behind it.
func Elect(b api.Book, node int) (state api.State, code api.Errno) {
	code = guarded(func() (code api.Errno) {
		state, code = b.Elect(node)
		return code
	})
	if code != api.OK {
		return api.State{}, code
	}
	return state, api.OK
}

// Put puts bytes into deep storage. A copy is handed out: they may be put again, and are to be the same then, whatever
// others did to them.
func Put(d api.Deep, name string, b []byte) api.Errno {
	return guarded(func() api.Errno { return d.Put(name, slices.Clone(b)) })
}

// Get is a blob's bytes.
func Get(d api.Deep, name string) (b []byte, code api.Errno) {
	code = guarded(func() (code api.Errno) {
		b, code = d.Get(name)
		return code
	})
	if code != api.OK {
		return nil, code
	}
	return b, api.OK
}

// Delete takes a blob away.
func Delete(d api.Deep, name string) api.Errno {
	return guarded(func() api.Errno { return d.Delete(name) })
}

// List are the names of the blobs that are there.
func List(d api.Deep) (names []string, code api.Errno) {
	code = guarded(func() (code api.Errno) {
		names, code = d.List()
		return code
	})
	if code != api.OK {
		return nil, code
	}
	return names, api.OK
}

func guarded(call func() api.Errno) (code api.Errno) {
	defer func() {
		if recover() != nil {
			code = api.ErrPower
		}
	}()
	return call()
}
