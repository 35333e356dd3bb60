package net

import "testing"

// TestTimersExample: P18.3, the table of the section 'Examples'.
func TestTimersExample(t *testing.T) {
	x := NewTimers()
	x.Set(1, 5)
	x.Set(2, 3)
	x.Set(1, 2)
	expectDue(t, x, 3, 1, 2)
	expectDue(t, x, 9)
}

// TestNone: P18.3, of no timers none is due, and none is stopped; of one that NewTimers didn't make neither.
func TestNone(t *testing.T) {
	for _, x := range []*Timers{NewTimers(), {}} {
		for _, now := range []int{lowest, -1, 0, 1, greatest} {
			expectDue(t, x, now)
		}
		expectFalse(t, x.Stop(0))
		expectFalse(t, x.Stop(7))
		x.Set(7, 4)
		expectDue(t, x, 4, 7)
	}
}

// TestDue: P18.3, below its time, at it, above it; twice in a row.
func TestDue(t *testing.T) {
	x := NewTimers()
	for _, late := range []int{0, 1, 1000} {
		x.Set(7, 10)
		expectDue(t, x, 9)
		expectDue(t, x, -10)
		expectDue(t, x, 10+late, 7)
		expectDue(t, x, 10+late)
		expectDue(t, x, greatest)
	}
}

// TestOrder: P18.3, by their times, those at one time by their ids, in whatever order they were set.
func TestOrder(t *testing.T) {
	x := NewTimers()
	for _, id := range []uint64{9, highest, 3, 0, 1 << 63, 4} {
		x.Set(id, 5)
	}
	x.Set(2, 6)
	x.Set(8, 4)
	x.Set(1, 7)
	expectDue(t, x, 6, 8, 0, 3, 4, 9, 1<<63, highest, 2)
	expectDue(t, x, 7, 1)
}

// TestMoved: P18.3, one that is set already is moved: to an earlier, the same, a later time.
func TestMoved(t *testing.T) {
	x := NewTimers()
	x.Set(1, 10)
	x.Set(2, 10)
	x.Set(3, 10)
	x.Set(4, 5)
	x.Set(1, 5)
	x.Set(2, 10)
	x.Set(3, 15)
	expectDue(t, x, 4)
	expectDue(t, x, 5, 1, 4)
	expectDue(t, x, 14, 2)
	expectDue(t, x, 15, 3)
	expectDue(t, x, greatest)
	x.Set(1, 5)
	x.Set(1, 9)
	x.Set(1, 7)
	expectDue(t, x, 9, 1)
}

// TestStop: P18.3, of one that is set, that isn't, twice, of one that went off; it goes off no more, till it is set again.
func TestStop(t *testing.T) {
	x := NewTimers()
	x.Set(1, 5)
	x.Set(2, 5)
	expectFalse(t, x.Stop(3))
	expectTrue(t, x.Stop(1))
	expectFalse(t, x.Stop(1))
	expectDue(t, x, 5, 2)
	expectFalse(t, x.Stop(2))
	x.Set(1, 6)
	expectDue(t, x, 5)
	expectTrue(t, x.Stop(1))
	expectDue(t, x, 9)
	x.Set(1, 3)
	x.Set(1, 4)
	expectTrue(t, x.Stop(1))
	expectFalse(t, x.Stop(1))
	expectDue(t, x, greatest)
}

// TestSetAgain: P18.3, behind Due, also at a time that has passed.
func TestSetAgain(t *testing.T) {
	x := NewTimers()
	x.Set(1, 5)
	x.Set(2, 8)
	expectDue(t, x, 6, 1)
	x.Set(1, 5)
	x.Set(3, -4)
	expectDue(t, x, 6, 3, 1)
	x.Set(1, 9)
	expectDue(t, x, 8, 2)
	expectTrue(t, x.Stop(1))
	expectFalse(t, x.Stop(2))
}

// TestBelowNought: P18.3, times below 0, and the greatest ones; Due that goes back.
func TestBelowNought(t *testing.T) {
	x := NewTimers()
	x.Set(1, -5)
	x.Set(2, lowest)
	x.Set(3, 0)
	x.Set(4, greatest)
	x.Set(5, -5)
	expectDue(t, x, lowest, 2)
	expectDue(t, x, -6)
	expectDue(t, x, -5, 1, 5)
	expectDue(t, x, -6)
	expectDue(t, x, -1)
	expectDue(t, x, greatest-1, 3)
	expectDue(t, x, greatest, 4)
	x.Set(6, -3)
	x.Set(7, -2)
	expectDue(t, x, 0, 6, 7)
}

// TestTimersApart: P18.3, each one has its own; who changes what was told changes nothing else.
func TestTimersApart(t *testing.T) {
	x, y := NewTimers(), NewTimers()
	x.Set(1, 5)
	expectDue(t, y, 9)
	expectFalse(t, y.Stop(1))
	x.Set(2, 6)
	due := x.Due(5)
	due[0] = 2
	_ = append(due, 3, 4)
	expectDue(t, x, 6, 2)
}

// TestManyTimers: P18.3, many, set in any order.
func TestManyTimers(t *testing.T) {
	const many = 10007
	x := NewTimers()
	var want []uint64
	for id := range uint64(many) {
		x.Set(id*5%many, int(id*5%many)/3)
		want = append(want, id)
	}
	expectDue(t, x, -1)
	expectDue(t, x, 2999, want[:9000]...)
	expectDue(t, x, greatest, want[9000:]...)
}

// TestTimersNil: P18.4, of nil: nothing, false.
func TestTimersNil(t *testing.T) {
	var x *Timers
	for range 2 {
		x.Set(1, 1)
		expectFalse(t, x.Stop(1))
		expectDue(t, x, greatest)
	}
}
