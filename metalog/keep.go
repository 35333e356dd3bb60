package metalog

import (
	"errors"

	"gristmill/api"
	"gristmill/disk"
	"gristmill/wire"
)

const (
	stateFile = "m.state" // the frame of the state
	draftFile = "m.draft" // that of the state which is to follow, till all of it is synced
)

// fault is what went wrong below, with what was being done.
type fault struct {
	doing string
	cause error
}

// Error is a text.
func (f *fault) Error() string { return "gristmill: " + f.doing + ": " + f.cause.Error() }

// Unwrap is what went wrong.
func (f *fault) Unwrap() error { return f.cause }

// while wraps a number with what was being done; nil, if nothing went wrong.
func while(doing string, code api.Errno) error {
	if code == api.OK {
		return nil
	}
	return &fault{doing: doing, cause: code}
}

// codeOf is the number that an error wraps.
func codeOf(err error) api.Errno {
	code := api.OK
	errors.As(err, &code)
	return code
}

// find is the state that a disk has of so many streams; where it has none, the first one is laid there.
func find(d *disk.Disk, streams int) (api.State, error) {
	state, err := read(d)
	if errors.Is(err, api.ErrNone) {
		state = api.State{Offsets: make([]uint64, streams)}
		err = keep(d, state)
	}
	if err != nil {
		return api.State{}, err
	}
	if len(state.Offsets) != streams {
		return api.State{}, while("counting the streams", api.ErrForm)
	}
	return state, nil
}

func read(d *disk.Disk) (api.State, error) {
	framed, code := d.Read(stateFile)
	if code != api.OK {
		return api.State{}, while("reading the state", code)
	}
	body, code := wire.Unframe(framed)
	if code != api.OK {
		return api.State{}, while("looking at the state's frame", api.ErrForm)
	}
	return parse(body)
}

// keep lays a state into its file by way of a draft, so that either the old one stands there or all of the new one.
func keep(d *disk.Disk, s api.State) error {
	framed, code := wire.Frame(body(s))
	if code != api.OK {
		return while("framing the state", code)
	}
	// One that a cut left would stand ahead of what is appended.
	err := while("clearing the draft", d.Remove(draftFile))
	if err != nil && !errors.Is(err, api.ErrNone) {
		return err
	}
	if err := while("writing the draft", d.Append(draftFile, framed)); err != nil {
		return err
	}
	if err := while("syncing the draft", d.Sync(draftFile)); err != nil {
		return err
	}
	return while("naming the draft", d.Rename(draftFile, stateFile))
}
