package net

import (
	"cmp"
	"slices"
)

// Timers are things to be done at some time.
type Timers struct {
	times map[uint64]int // of those that are set
}

// NewTimers is no timers.
func NewTimers() *Timers { return &Timers{times: map[uint64]int{}} }

// Set sets a timer.
func (t *Timers) Set(id uint64, at int) {
	if t == nil {
		return
	}
	if t.times == nil {
		t.times = map[uint64]int{}
	}
	t.times[id] = at
}

// Stop stops a timer.
func (t *Timers) Stop(id uint64) bool {
	if t == nil {
		return false
	}
	_, set := t.times[id]
	delete(t.times, id)
	return set
}

// Due is the timers whose time has come, and takes them out.
func (t *Timers) Due(now int) []uint64 {
	if t == nil {
		return nil
	}
	var due []uint64
	for id, at := range t.times {
		if at <= now {
			due = append(due, id)
		}
	}
	slices.SortFunc(due, t.earlier)
	for _, id := range due {
		delete(t.times, id)
	}
	return due
}

// earlier is the order of timers that are set: by their times, then their ids.
func (t *Timers) earlier(a, b uint64) int {
	return cmp.Or(cmp.Compare(t.times[a], t.times[b]), cmp.Compare(a, b))
}
