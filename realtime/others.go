package realtime

import (
	"slices"

	"gristmill/api"
)

// stateOf is what a book tells.
func stateOf(b api.Book) (state api.State, code api.Errno) {
	code = guarded(func() (code api.Errno) {
		state, code = b.State()
		return code
	})
	return state, code
}

func do(b api.Book, t api.Txn) api.Errno {
	return guarded(func() api.Errno {
		_, code := b.Do(t)
		return code
	})
}

// put hands out a copy of the bytes: they may be put again, and are to be the same then, whatever others did to them.
func put(d api.Deep, name string, b []byte) api.Errno {
	return guarded(func() api.Errno { return d.Put(name, slices.Clone(b)) })
}

// guarded is what a call of others tells. One that panics (of a book that is nil, too) leaves unknown what it did, as
// one of somebody who is away does.
func guarded(call func() api.Errno) (code api.Errno) {
	defer func() {
		if recover() != nil {
			code = api.ErrPower
		}
	}()
	return call()
}
