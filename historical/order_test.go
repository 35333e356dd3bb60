package historical

import (
	"math"
	"testing"

	"gristmill/api"
)

// TestTerms: P20.2, orders of terms below the greatest one seen, at it, above it, for this node and for others.
func TestTerms(t *testing.T) {
	s := chunkOf(0)
	for name, c := range map[string]struct {
		terms, nodes  []int
		waiting, term int
	}{
		"none":                    {nil, nil, 0, 0},
		"0":                       {[]int{0}, []int{21}, 1, 0},
		"below 0":                 {[]int{-1, math.MinInt}, []int{21, 21}, 0, 0},
		"1":                       {[]int{1}, []int{21}, 1, 1},
		"the greatest":            {[]int{math.MaxInt}, []int{21}, 1, math.MaxInt},
		"rising":                  {[]int{1, 2, 5}, []int{21, 21, 21}, 3, 5},
		"all alike":               {[]int{4, 4, 4}, []int{21, 21, 21}, 3, 4},
		"one below":               {[]int{2, 1}, []int{21, 21}, 1, 2},
		"0 behind 1":              {[]int{1, 0}, []int{21, 21}, 1, 1},
		"back and on":             {[]int{3, 2, 3, 1, 4, 3}, []int{21, 21, 21, 21, 21, 21}, 3, 4},
		"for another":             {[]int{9}, []int{22}, 0, 0},
		"for others":              {[]int{1, 2, 3, 4, 5}, []int{20, 0, -21, 41, math.MaxInt}, 0, 0},
		"for another, then lower": {[]int{9, 2}, []int{22, 21}, 1, 2},
		"lower, for another":      {[]int{9, 2}, []int{21, 22}, 1, 9},
	} {
		_, _, n := rigged(t, ordinary())
		for at, term := range c.terms {
			m := toLoad(term, s)
			m.Order.Node, m.Order.Seg.Part = c.nodes[at], at
			tell(t, n, m)
		}
		if n.Waiting() != c.waiting || n.Term() != c.term {
			t.Errorf("%s: %d wait, Term %d", name, n.Waiting(), n.Term())
		}
	}
}

// TestNodes: P20.2, each node takes the orders of its own number alone, whoever they were sent to.
func TestNodes(t *testing.T) {
	for id := api.Store; id < api.Store+3; id++ {
		w, d, _ := rigged(t, ordinary())
		w.publish(chunkOf(0))
		n, code := New(id, w.setup, d)
		expectCode(t, code, api.OK)
		for other := range 80 {
			m := toLoad(1, chunkOf(0))
			m.To, m.From, m.Order.Node = 79-other, other, other
			tell(t, n, m)
			if took := n.Waiting() > 0; took != (other >= id) {
				t.Fatal(id, other, took)
			}
		}
		expectWaiting(t, n, 1)
	}
}

// TestTwice: P20.2, an order that waits already in just this form doesn't wait twice, by whatever term and way it comes; its term is seen.
func TestTwice(t *testing.T) {
	s := chunkOf(0)
	_, _, n := rigged(t, ordinary())
	tell(t, n, toLoad(1, s), toLoad(1, s))
	expectWaiting(t, n, 1)
	m := toLoad(3, s)
	m.From, m.Id, m.Ask, m.Offset = 44, 99, 98, 97
	tell(t, n, m)
	expectWaiting(t, n, 1)
	expectTerm(t, n, 3)
	tell(t, n, toLoad(2, chunkOf(10)))
	expectWaiting(t, n, 1)
	// Others differ in one thing each.
	for k, other := range []api.Seg{
		seg(1, 10, 1, 0, 0), seg(0, 11, 1, 0, 0), seg(0, 10, 2, 0, 0), seg(0, 10, 1, 1, 0), seg(0, 10, 1, 0, 1),
	} {
		tell(t, n, toLoad(3, other), toLoad(3, s), toLoad(3, other))
		expectWaiting(t, n, k+2)
	}
	tell(t, n, toDrop(3, s), toDrop(3, s), toLoad(3, s))
	expectWaiting(t, n, 7)
}

// TestOrderBehindOrder: P20.2, P20.4, orders are done in the order in which they came, contrary ones, too.
func TestOrderBehindOrder(t *testing.T) {
	a, b := chunkOf(0), chunkOf(10)
	for name, c := range map[string]struct {
		orders []api.Msg
		want   []api.Seg
	}{
		"load":                   {[]api.Msg{toLoad(1, a)}, []api.Seg{a}},
		"load both":              {[]api.Msg{toLoad(1, b), toLoad(1, a)}, []api.Seg{a, b}},
		"load, drop":             {[]api.Msg{toLoad(1, a), toDrop(1, a)}, nil},
		"drop, load":             {[]api.Msg{toDrop(1, a), toLoad(1, a)}, []api.Seg{a}},
		"drop":                   {[]api.Msg{toDrop(1, a)}, nil},
		"load, drop, load again": {[]api.Msg{toLoad(1, a), toDrop(1, a), toLoad(1, a)}, nil},
		"drop, load, drop again": {[]api.Msg{toDrop(1, a), toLoad(1, a), toDrop(1, a)}, []api.Seg{a}},
		"load one, drop another": {[]api.Msg{toLoad(1, a), toDrop(1, b)}, []api.Seg{a}},
		"of rising terms":        {[]api.Msg{toLoad(1, a), toLoad(2, b), toDrop(3, a)}, []api.Seg{b}},
		"of a lower term":        {[]api.Msg{toLoad(2, a), toDrop(1, a)}, []api.Seg{a}},
	} {
		w, d, n := rigged(t, ordinary())
		w.publish(a, b)
		tell(t, n, c.orders...)
		// Nothing is done ahead of a tick.
		w.expectJust(n)
		n.Tick(1, w, w)
		expectWaiting(t, n, 0)
		if got := n.Served(); len(got) != len(c.want) {
			t.Errorf("%s: %+v", name, got)
		}
		w.expectJust(n, c.want...)
		w.expectJust(w.node(d), c.want...)
	}
}

// TestAgain: P20.2, an order that was done may be given again, and waits and is done again.
func TestAgain(t *testing.T) {
	w, _, n := rigged(t, ordinary())
	w.publish(chunkOf(0))
	for now := 1; now < 12; now += 4 {
		tell(t, n, toLoad(1, chunkOf(0)))
		expectWaiting(t, n, 1)
		n.Tick(now, w, w)
		w.expectJust(n, chunkOf(0))
		tell(t, n, toLoad(1, chunkOf(0)))
		expectWaiting(t, n, 1)
		n.Tick(now+1, w, w)
		w.expectJust(n, chunkOf(0))
		tell(t, n, toDrop(1, chunkOf(0)))
		n.Tick(now+2, w, w)
		tell(t, n, toDrop(1, chunkOf(0)))
		expectWaiting(t, n, 1)
		n.Tick(now+3, w, w)
		w.expectJust(n)
		expectWaiting(t, n, 0)
	}
}

// TestOtherKinds: P20.3, messages of other kinds are answered by nothing, and change nothing.
func TestOtherKinds(t *testing.T) {
	w, _, n := serving(t, chunkOf(0))
	w.publish(chunkOf(10))
	for _, kind := range []int{math.MinInt, -1, 0, api.MsgFact, api.MsgTake, api.MsgTail, api.MsgPart, api.MsgHave, 8, 9, math.MaxInt} {
		for _, s := range []api.Seg{chunkOf(0), chunkOf(10)} {
			for _, drop := range []bool{false, true} {
				m := asked(all(), whole(s))
				m.Kind, m.Term, m.Order.Drop, m.From, m.To = kind, 9, drop, api.Broker, api.Store
				m.Fact = factsOf(w.setup.Schema, s)[0].Fact
				tell(t, n, m)
			}
		}
	}
	expectWaiting(t, n, 0)
	expectTerm(t, n, 1)
	expectMsgs(t, n.Tick(2, w, w))
	w.expectJust(n, chunkOf(0))
}

// TestExamples: the table of the section 'Examples'.
func TestExamples(t *testing.T) {
	_, _, n := rigged(t, ordinary())
	tell(t, n, toLoad(2, chunkOf(0)), toLoad(1, chunkOf(10)))
	expectWaiting(t, n, 1)
	expectTerm(t, n, 2)
	_, _, n = rigged(t, ordinary())
	expectNoPiece(t, n, all(), whole(chunkOf(0)), api.ErrNone)
}
