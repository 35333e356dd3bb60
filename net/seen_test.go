package net

import "testing"

// TestSeenExample: P18.2, the table of the section 'Examples'.
func TestSeenExample(t *testing.T) {
	s := NewSeen(2)
	expectFresh(t, s, 3, true, 5)
	expectFresh(t, s, 3, false, 5)
	expectFresh(t, s, 3, true, 7, 6)
	expectFresh(t, s, 3, false, 4, 5)
	expectFresh(t, s, 3, false, 6, 7)
}

// TestMost: P18.2, most below 1 counts as 1; so does one that NewSeen didn't make.
func TestMost(t *testing.T) {
	for _, s := range []*Seen{NewSeen(lowest), NewSeen(-5), NewSeen(-1), NewSeen(0), NewSeen(1), {}} {
		expectFresh(t, s, 1, true, 5)
		expectFresh(t, s, 1, false, 5, 4, 0)
		expectFresh(t, s, 1, true, 6)
		expectFresh(t, s, 1, false, 5, 6, 4)
		expectFresh(t, s, 1, true, 9)
		expectFresh(t, s, 1, false, 8, 7, 6, 5, 9)
	}
}

// TestRoom: P18.2, an id below all with room, and without; one between; one above all.
func TestRoom(t *testing.T) {
	s := NewSeen(3)
	expectFresh(t, s, 0, true, 50, 40, 30) // below all, with room
	expectFresh(t, s, 0, false, 29, 20, 0) // without
	expectFresh(t, s, 0, true, 35)         // between: 30 is forgotten
	expectFresh(t, s, 0, false, 30, 34)    // what was forgotten, and what is below all
	expectFresh(t, s, 0, false, 35, 40, 50)
	expectFresh(t, s, 0, true, 60) // above all: 35 is forgotten
	expectFresh(t, s, 0, false, 35, 36, 39, 40, 50, 60)
	expectFresh(t, s, 0, true, 41) // between the least one and the next: 40 is forgotten
	expectFresh(t, s, 0, false, 40, 41, 50, 60)
	expectFresh(t, s, 0, true, 55, 59, 61)
	expectFresh(t, s, 0, false, 58, 55, 59, 60, 61)
}

// TestExactlyMost: P18.2, just so many are remembered, no less and no more.
func TestExactlyMost(t *testing.T) {
	for most := 1; most < 40; most++ {
		s := NewSeen(most)
		for id := range uint64(100) {
			expectFresh(t, s, 1, true, 1000+2*id)
		}
		// The last so many are remembered; of those ahead of them, and those between, none is taken.
		for id := range uint64(100) {
			expectFresh(t, s, 1, false, 1000+2*id)
		}
		least := uint64(1000 + 2*(100-most))
		expectFresh(t, s, 1, false, least-1)
		expectFresh(t, s, 1, true, least+1)
		expectFresh(t, s, 1, false, least)
	}
}

// TestEnds: P18.2, 0 and 2^64 - 1.
func TestEnds(t *testing.T) {
	s := NewSeen(2)
	expectFresh(t, s, 1, true, 0)
	expectFresh(t, s, 1, false, 0)
	expectFresh(t, s, 1, true, highest)
	expectFresh(t, s, 1, false, 0, highest)
	expectFresh(t, s, 1, true, highest-1)
	expectFresh(t, s, 1, false, 0, 1, highest-2, highest-1, highest)
	s = NewSeen(1)
	expectFresh(t, s, 1, true, highest)
	expectFresh(t, s, 1, false, 0, highest-1, highest)
	s = NewSeen(1)
	expectFresh(t, s, 1, true, 0, 1)
	expectFresh(t, s, 1, false, 0)
	s = NewSeen(5)
	expectFresh(t, s, 1, true, 1, 0)
	expectFresh(t, s, 1, false, 0, 1)
}

// TestSenders: P18.2, what is remembered of one sender says nothing of another; those below 0 are senders, too.
func TestSenders(t *testing.T) {
	s := NewSeen(2)
	senders := []int{0, 1, -1, 21, -21, lowest, greatest}
	for _, id := range []uint64{5, 7} {
		for _, from := range senders {
			expectFresh(t, s, from, true, id)
			expectFresh(t, s, from, false, id)
		}
	}
	expectFresh(t, s, -1, true, 100, 101)
	expectFresh(t, s, -1, false, 5, 7, 6, 99, 100)
	for _, from := range senders {
		if from != -1 {
			expectFresh(t, s, from, false, 4, 5, 7)
			expectFresh(t, s, from, true, 6)
			expectFresh(t, s, from, false, 5)
		}
	}
}

// TestSeenApart: P18.2, each one remembers its own.
func TestSeenApart(t *testing.T) {
	x, y := NewSeen(2), NewSeen(2)
	expectFresh(t, x, 1, true, 5, 6, 7)
	expectFresh(t, y, 1, true, 5)
	expectFresh(t, x, 1, false, 5)
}

// TestMany: P18.2, many are remembered: of Ids that rise, that fall, and that come in turn; more than there will be, too.
func TestMany(t *testing.T) {
	const many = 20000
	for _, most := range []int{many, greatest} {
		s := NewSeen(most)
		for id := uint64(many); id > 0; id-- {
			expectFresh(t, s, 1, true, id)
			expectFresh(t, s, 2, true, many-id)
			expectFresh(t, s, 3, true, id*12347%many)
		}
		for id := uint64(1); id < many; id++ {
			expectFresh(t, s, 1, false, id)
			expectFresh(t, s, 2, false, id)
			expectFresh(t, s, 3, false, id)
		}
		expectFresh(t, s, 1, most > many, 0)
	}
	s := NewSeen(many)
	for id := range uint64(10 * many) {
		expectFresh(t, s, 1, true, 2*id)
	}
	expectFresh(t, s, 1, false, 2*9*many, 2*9*many-1, 2*10*many-2)
	expectFresh(t, s, 1, true, 2*9*many+1)
	expectFresh(t, s, 1, false, 2*9*many)
}

// TestSeenNil: P18.4, of nil: false.
func TestSeenNil(t *testing.T) {
	var s *Seen
	expectFresh(t, s, 0, false, 0, 1, 1, highest)
	expectFresh(t, s, -1, false, 5)
}
