package net

import (
	"testing"

	"gristmill/api"
)

// TestEmpty: P18.1, of a new net no message is under way; of one that New didn't make neither.
func TestEmpty(t *testing.T) {
	for _, n := range []*Net{New(), {}} {
		expectWaiting(t, n)
		m, there := n.Peek(0)
		expectNothing(t, m, there)
		m, there = n.Deliver(0)
		expectNothing(t, m, there)
		expectFalse(t, n.Lose(0))
		expectFalse(t, n.Twice(0))
		expectId(t, n.Send(marked(7)), 1)
		expectWaiting(t, n, with(marked(7), 1))
	}
}

// TestExample: P18.1, the table of the section 'Examples'.
func TestExample(t *testing.T) {
	n := New()
	a, b := marked(100), marked(200)
	expectId(t, n.Send(a), 1)
	expectId(t, n.Send(b), 2)
	expectTrue(t, n.Twice(0))
	m, there := n.Deliver(0)
	expectTold(t, m, there, with(a, 1))
	expectWaiting(t, n, with(b, 2), with(a, 1))
	m, there = n.Deliver(1)
	expectTold(t, m, there, with(a, 1))
	expectWaiting(t, n, with(b, 2))
}

// TestIds: P18.1, Ids from 1 on, one more at each Send, whatever was delivered, lost, doubled, and whatever Id is handed in.
func TestIds(t *testing.T) {
	n := New()
	expectId(t, n.Send(with(marked(1), 99)), 1)
	expectId(t, n.Send(with(marked(1), 1)), 2) // the same message again
	expectTrue(t, n.Lose(0))
	expectId(t, n.Send(with(marked(2), highest)), 3)
	n.Deliver(1)
	n.Deliver(0)
	expectWaiting(t, n)
	expectId(t, n.Send(marked(3)), 4)
	expectTrue(t, n.Twice(0))
	expectTrue(t, n.Twice(1))
	expectId(t, n.Send(marked(4)), 5)
	n.Peek(0)
	expectFalse(t, n.Lose(9))
	expectFalse(t, n.Twice(9))
	expectId(t, n.Send(api.Msg{}), 6)
	three := with(marked(3), 4)
	expectWaiting(t, n, three, three, three, with(marked(4), 5), api.Msg{Id: 6})
}

// TestApart: P18.1, each net has its own messages and Ids.
func TestApart(t *testing.T) {
	x, y := sent(t, 1, 2), sent(t, 3)
	expectTrue(t, x.Lose(0))
	expectWaiting(t, x, with(marked(2), 2))
	expectWaiting(t, y, with(marked(3), 1))
	expectId(t, y.Send(marked(4)), 2)
	expectWaiting(t, x, with(marked(2), 2))
}

// TestWaiting: P18.1, of none, one, several; Peek changes nothing.
func TestWaiting(t *testing.T) {
	n := New()
	var want []api.Msg
	for at := range uint64(9) {
		expectWaiting(t, n, want...)
		expectWaiting(t, n, want...)
		n.Send(marked(50 + at))
		want = append(want, with(marked(50+at), at+1))
	}
	for len(want) > 0 {
		expectWaiting(t, n, want...)
		expectTrue(t, n.Lose(0))
		want = want[1:]
	}
	expectWaiting(t, n)
}

// TestTakenOut: P18.1, Deliver and Lose of each place: those behind move up.
func TestTakenOut(t *testing.T) {
	one, two, three, four := with(marked(10), 1), with(marked(20), 2), with(marked(30), 3), with(marked(40), 4)
	all := []api.Msg{one, two, three, four}
	for i, left := range [][]api.Msg{{two, three, four}, {one, three, four}, {one, two, four}, {one, two, three}} {
		n := sent(t, 10, 20, 30, 40)
		m, there := n.Deliver(i)
		expectTold(t, m, there, all[i])
		expectWaiting(t, n, left...)
		n = sent(t, 10, 20, 30, 40)
		expectTrue(t, n.Lose(i))
		expectWaiting(t, n, left...)
	}
}

// TestOneOnly: P18.1, a net of one message: its only place, and those beside it.
func TestOneOnly(t *testing.T) {
	n := sent(t, 8)
	expectNoMore(t, n, 1)
	m, there := n.Deliver(0)
	expectTold(t, m, there, with(marked(8), 1))
	expectWaiting(t, n)
	n = sent(t, 8)
	expectTrue(t, n.Lose(0))
	expectFalse(t, n.Lose(0))
	expectWaiting(t, n)
}

// TestTwice: P18.1, it keeps its Id, and stands behind all others; what was doubled may be doubled again.
func TestTwice(t *testing.T) {
	one, two, three := with(marked(10), 1), with(marked(20), 2), with(marked(30), 3)
	n := sent(t, 10, 20, 30)
	expectTrue(t, n.Twice(1))
	expectWaiting(t, n, one, two, three, two)
	expectTrue(t, n.Twice(3)) // the double
	expectWaiting(t, n, one, two, three, two, two)
	expectTrue(t, n.Twice(0))
	expectWaiting(t, n, one, two, three, two, two, one)
	expectTrue(t, n.Lose(1)) // its doubles stay
	expectWaiting(t, n, one, three, two, two, one)
	m, there := n.Deliver(3)
	expectTold(t, m, there, two)
	expectTrue(t, n.Twice(2))
	expectWaiting(t, n, one, three, two, one, two)
	expectId(t, n.Send(marked(40)), 4)
	expectWaiting(t, n, one, three, two, one, two, with(marked(40), 4))
}

// TestLastDoubled: P18.1, a double outlives the one that it was made of.
func TestLastDoubled(t *testing.T) {
	n := sent(t, 10)
	expectTrue(t, n.Twice(0))
	expectTrue(t, n.Lose(0))
	expectTrue(t, n.Twice(0))
	n.Deliver(0)
	expectWaiting(t, n, with(marked(10), 1))
}

// TestNil: P18.4, of nil: nothing, 0, false.
func TestNil(t *testing.T) {
	var n *Net
	for range 2 {
		expectId(t, n.Send(full(1)), 0)
		if n.Waiting() != 0 {
			t.Fatal(n.Waiting())
		}
		for _, i := range []int{-1, 0, 1, lowest, greatest} {
			m, there := n.Peek(i)
			expectNothing(t, m, there)
			m, there = n.Deliver(i)
			expectNothing(t, m, there)
			expectFalse(t, n.Lose(i))
			expectFalse(t, n.Twice(i))
		}
	}
}

// TestManyWaiting: P18.1, many messages, taken from the front, the middle and the end.
func TestManyWaiting(t *testing.T) {
	const many = 20001
	n := New()
	for at := range uint64(many) {
		expectId(t, n.Send(marked(at)), at+1)
	}
	m, there := n.Deliver(many / 2)
	expectTold(t, m, there, with(marked(many/2), many/2+1))
	for at := range uint64(many / 2) {
		m, there = n.Deliver(0)
		expectTold(t, m, there, with(marked(at), at+1))
		m, there = n.Deliver(n.Waiting() - 1)
		expectTold(t, m, there, with(marked(many-1-at), many-at))
	}
	expectWaiting(t, n)
}
