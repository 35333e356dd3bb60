package coordinator

import (
	"testing"

	"gristmill/api"
)

// TestTwoLeaders: P21.5, of two nodes that led the one that was elected last alone is obeyed, wherever the other one was elected.
func TestTwoLeaders(t *testing.T) {
	calls := map[string]func(n *Node, w *world) api.Errno{
		"Tick": func(n *Node, w *world) api.Errno {
			l := n.Tick(5, w, w)
			expectOrders(t, l, n.id, n.Term())
			return api.ErrTerm
		},
		"Compact": func(n *Node, w *world) api.Errno { return n.Compact(span(0, 20), w, w) },
		"Wipe":    func(n *Node, w *world) api.Errno { return n.Wipe(span(5, 15), w, w) },
	}
	for name, call := range calls {
		for _, between := range []string{"ahead of the call", "ahead of the transaction", "ahead of both"} {
			w, n := rigged(t, ordinary())
			other := w.node(api.Leader + 1)
			elect := func() { expectCode(t, other.Elect(w), api.OK) }
			there := []api.Seg{chunkOf(0), seg(0, 10, 2, 0, 1), chunkOf(10)}
			w.publish(there...)
			tell(n, have(22, 1))
			facts := w.facts()
			if between != "ahead of the transaction" {
				elect()
			}
			if between != "ahead of the call" {
				w.ahead = elect
			}
			t.Log(name, between)
			expectCode(t, call(n, w), api.ErrTerm)
			w.ahead = nil
			expectTerm(t, n, 0)
			w.expectSegs(there...)
			w.expectFacts(facts)
			// The one that was elected goes on, the other one doesn't.
			expectCode(t, other.Compact(span(0, 20), w, w), api.OK)
			expectCode(t, n.Wipe(span(0, 60), w, w), api.ErrTerm)
			expectCode(t, n.Compact(span(0, 60), w, w), api.ErrTerm)
			w.expectTick(n, 6)
			w.expectTick(other, 6)
			w.expectSegs(seg(0, 20, 3, 0, 1))
			w.expectFacts(facts)
			expectCode(t, other.Wipe(span(5, 15), w, w), api.OK)
			w.expectFacts(facts, span(5, 15))
		}
	}
}

// TestTermsOfTransactions: P21.2 to P21.4, each transaction bears the Term that the node leads then.
func TestTermsOfTransactions(t *testing.T) {
	w := newWorld(t, ordinary())
	a, b := w.node(api.Leader), w.node(api.Leader+1)
	w.publish(chunkOf(0), chunkOf(10))
	for term := 1; term < 9; term++ {
		n := []*Node{a, b, b}[term%3]
		expectCode(t, n.Elect(w), api.OK)
		w.txns = nil
		if n.Compact(span(0, 20), w, w) != api.OK {
			expectCode(t, n.Wipe(span(int64(term), int64(term)+1), w, w), api.OK)
		}
		w.expectTick(n, term)
		if len(w.txns) != 2 {
			t.Fatal(w.txns)
		}
		for _, txn := range w.txns {
			if txn.Term != term {
				t.Fatal(txn)
			}
		}
	}
}

// TestSecondLeaderSweeps: P21.2, P21.5, what one node has seen another one hasn't.
func TestSecondLeaderSweeps(t *testing.T) {
	w, n := rigged(t, ordinary())
	other := w.node(api.Leader + 1)
	w.put("loose")
	for now := 1; now < 5; now++ {
		w.expectTick(n, now)
		w.expectTick(other, now)
	}
	expectCode(t, other.Elect(w), api.OK)
	for now := 5; now < 9; now++ {
		w.expectTick(n, now)
		w.expectTick(other, now)
		w.expectBlobs("loose")
	}
	w.expectTick(other, 9)
	w.expectBlobs()
}

// TestCuts: P21.5, wherever the disks lose their power in a call, nothing is lost, and it goes on when they are opened again.
func TestCuts(t *testing.T) {
	for disk := range 2 {
		for at := range 14 {
			w, n := rigged(t, ordinary())
			w.publish(chunkOf(0), chunkOf(10), chunkOf(20), seg(20, 30, 2, 0, 1))
			w.put("loose")
			facts := w.facts()
			var wiped []api.Span
			do := func(call func() bool) {
				w.disks[disk].CutAt(w.disks[disk].Ops()+at, at*at)
				call()
				w.open()
				w.expectFacts(facts, wiped...)
				if !call() {
					t.Fatal("not done", disk, at)
				}
				w.expectFacts(facts, wiped...)
			}
			do(func() bool {
				w.expectTick(n, 1)
				return len(w.segs()) == 3
			})
			do(func() bool {
				code := n.Compact(span(0, 30), w, w)
				return code == api.OK || code == api.ErrNone
			})
			do(func() bool {
				w.expectTick(n, 2)
				return len(w.segs()) == 1
			})
			for now := 3; now < 9; now++ {
				do(func() bool {
					w.expectTick(n, now)
					return true
				})
			}
			if got := len(w.store.List()); got != 1 {
				t.Fatal(disk, at, got)
			}
			wiped = []api.Span{span(5, 15)}
			w.disks[disk].CutAt(w.disks[disk].Ops()+at, at*at)
			first := n.Wipe(wiped[0], w, w)
			w.open()
			if len(w.segs()) == 1 {
				w.expectFacts(facts)
			} else {
				w.expectFacts(facts, wiped...)
			}
			if first == api.OK && len(w.segs()) != 2 {
				t.Fatal("forgotten")
			}
			expectCode(t, n.Wipe(wiped[0], w, w), api.OK)
			w.expectFacts(facts, wiped...)
		}
	}
}
