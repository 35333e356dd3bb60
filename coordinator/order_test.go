package coordinator

import (
	"math"
	"testing"

	"gristmill/api"
)

// TestOrders: P21.2, the orders of a tick, for no living node, one, fewer and more than Replicas.
func TestOrders(t *testing.T) {
	a, b, c, old := chunkOf(0), chunkOf(10), chunkOf(20), chunkOf(40)
	for name, k := range map[string]struct {
		replicas int
		told     []api.Msg
		want     []api.Order
	}{
		"nobody":           {1, nil, nil},
		"one":              {1, []api.Msg{have(23, 1)}, []api.Order{load(a, 23), load(b, 23), load(c, 23)}},
		"fewer than 2":     {2, []api.Msg{have(23, 1)}, []api.Order{load(a, 23), load(b, 23), load(c, 23)}},
		"fewer than 1000":  {1000, []api.Msg{have(23, 1), have(21, 1)}, []api.Order{load(a, 21), load(a, 23), load(b, 21), load(b, 23), load(c, 21), load(c, 23)}},
		"just 2":           {2, []api.Msg{have(23, 1), have(21, 1)}, []api.Order{load(a, 21), load(a, 23), load(b, 21), load(b, 23), load(c, 21), load(c, 23)}},
		"more than 1":      {1, []api.Msg{have(23, 1), have(21, 1), have(22, 1)}, []api.Order{load(a, 21), load(b, 22), load(c, 23)}},
		"more than 2":      {2, []api.Msg{have(23, 1), have(21, 1), have(22, 1)}, []api.Order{load(a, 21), load(a, 22), load(b, 23), load(b, 21), load(c, 22), load(c, 23)}},
		"loads":            {1, []api.Msg{have(21, 1, a), have(22, 1), have(23, 1)}, []api.Order{load(b, 22), load(c, 23)}},
		"drops come first": {1, []api.Msg{have(21, 1, old), have(22, 1, old)}, []api.Order{drop(old, 21), drop(old, 22), load(a, 21), load(b, 22), load(c, 21)}},
		"too many":         {1, []api.Msg{have(21, 1, a), have(22, 1, a, b), have(23, 1, a, c)}, []api.Order{drop(a, 23), drop(a, 22)}},
		"all is well":      {2, []api.Msg{have(21, 1, a, b), have(22, 1, b, c), have(23, 1, a, c)}, nil},
	} {
		s := ordinary()
		s.Replicas = k.replicas
		w, n := rigged(t, s)
		w.publish(c, a, b)
		tell(n, k.told...)
		t.Log(name)
		w.expectTick(n, 1, k.want...)
		w.expectCalls("State", "List")
	}
}

// TestOrdersOfTheShown: P21.2, segments are wanted that count at some time, as they stand, and no others.
func TestOrdersOfTheShown(t *testing.T) {
	w, n := rigged(t, ordinary())
	w.publish(
		seg(10, 20, 3, 1, 2), seg(10, 20, 3, 0, 2), seg(10, 20, 3, 5, 2), seg(0, 30, 2, 0, 1), seg(40, 50, 4, 1, 2),
		seg(0, 40, 1, 0, 0), seg(30, 40, 2, 0, 1), seg(40, 50, 3, 0, 0),
	)
	tell(n, have(21, 1, seg(40, 50, 4, 1, 2), seg(0, 40, 1, 0, 0)))
	w.expectTick(
		n, 1, drop(seg(0, 40, 1, 0, 0), 21), drop(seg(40, 50, 4, 1, 2), 21), load(seg(0, 30, 2, 0, 1), 21), load(seg(10, 20, 3, 0, 2), 21),
		load(seg(10, 20, 3, 1, 2), 21), load(seg(10, 20, 3, 5, 2), 21), load(seg(30, 40, 2, 0, 1), 21), load(seg(40, 50, 3, 0, 0), 21),
	)
	// What comes to count is wanted, what doesn't any more isn't.
	w.publish(seg(40, 50, 4, 0, 2))
	w.expectTick(n, 2, drop(seg(40, 50, 3, 0, 0), 21), load(seg(40, 50, 4, 0, 2), 21), load(seg(40, 50, 4, 1, 2), 21))
	w.retract(seg(10, 20, 3, 0, 2))
	w.expectTick(n, 3, drop(seg(10, 20, 3, 0, 2), 21), drop(seg(10, 20, 3, 1, 2), 21), drop(seg(10, 20, 3, 5, 2), 21))
	w.expectTick(n, 4)
}

// TestOrdersOfMany: P21.2, of all historical nodes that there may be.
func TestOrdersOfMany(t *testing.T) {
	s := ordinary()
	s.Stores, s.Replicas, s.Leaders = 16, 16, 16
	w := newWorld(t, s)
	n := w.node(api.Leader + 15)
	for range 5 {
		expectCode(t, n.Elect(w), api.OK)
	}
	w.publish(chunkOf(0))
	var want []api.Order
	for at := range 16 {
		tell(n, have(api.Store+15-at, 1))
		want = append(want, load(chunkOf(0), api.Store+at))
	}
	expectOrders(t, n.Tick(1, w, w), 56, 5, want...)
}

// TestUnderWay: P21.2, an order is under way till its node told something with a Count above the tick at which it was sent.
func TestUnderWay(t *testing.T) {
	a, b, old := chunkOf(0), chunkOf(10), chunkOf(40)
	for name, c := range map[string]struct {
		told []api.Msg
		want []api.Order
	}{
		"nothing told":        {nil, nil},
		"below, nothing done": {[]api.Msg{have(22, 8, old)}, nil},
		"at, nothing done":    {[]api.Msg{have(22, 10, old)}, nil},
		"above, nothing done": {[]api.Msg{have(22, 11, old)}, []api.Order{drop(old, 22), load(a, 22), load(b, 22)}},
		"at, all done":        {[]api.Msg{have(22, 10, a, b)}, nil},
		"above, all done":     {[]api.Msg{have(22, 11, a, b)}, nil},
		"above, some done":    {[]api.Msg{have(22, 11, b, old)}, []api.Order{drop(old, 22), load(a, 22)}},
		"at and above":        {[]api.Msg{have(22, 10, a, b), have(22, 11, b)}, []api.Order{load(a, 22)}},
		"above and below":     {[]api.Msg{have(22, 11, a), have(22, 9, old)}, []api.Order{load(b, 22)}},
		"by another":          {[]api.Msg{have(23, 11), have(24, 11), have(1, 11)}, nil},
	} {
		w, n := rigged(t, ordinary())
		w.publish(a, b)
		tell(n, have(22, 9, old))
		w.expectTick(n, 10, drop(old, 22), load(a, 22), load(b, 22))
		w.expectTick(n, 11)
		tell(n, c.told...)
		t.Log(name)
		w.expectTick(n, 12, c.want...)
		w.expectTick(n, 12+len(c.want))
		if name == "above, nothing done" {
			// What was sent anew is under way till there is a Count above that tick.
			tell(n, have(22, 12, old))
			w.expectTick(n, 16)
			tell(n, have(22, 13, old))
			w.expectTick(n, 17, c.want...)
		}
	}
}

// TestUnderWayForLong: P21.2, an order is under way however long it takes, whoever else comes and goes.
func TestUnderWayForLong(t *testing.T) {
	w, n := rigged(t, ordinary())
	w.publish(chunkOf(0), chunkOf(10))
	tell(n, have(22, 0))
	w.expectTick(n, 1, load(chunkOf(0), 22), load(chunkOf(10), 22))
	for now := 2; now < 40; now++ {
		tell(n, have(22, 1))
		w.expectTick(n, now)
	}
	// The node is dead, others have to do it; alive again it is to have done it, as far as anybody knows.
	for now := 40; now < 46; now++ {
		tell(n, have(21, 0))
		if now == 46-1 {
			w.fate = failing("State", lost)
		}
		w.expectTick(n, now)
	}
	w.fate = nil
	w.expectTick(n, 46, load(chunkOf(0), 21), load(chunkOf(10), 21))
	tell(n, have(22, 1))
	w.expectTick(n, 47, drop(chunkOf(0), 22), drop(chunkOf(10), 21))
	// Of node 22 all but the drop at 47 is over, of node 21 nothing.
	tell(n, have(22, 47), have(21, 46))
	w.expectTick(n, 48, load(chunkOf(10), 22))
	tell(n, have(22, 48))
	w.expectTick(n, 49)
	tell(n, have(22, 49))
	w.expectTick(n, 50, load(chunkOf(10), 22))
}

// TestUnderWayInTurn: P21.2, orders of one pair count as they were sent, one behind the other.
func TestUnderWayInTurn(t *testing.T) {
	a := chunkOf(0)
	w, n := rigged(t, ordinary())
	tell(n, have(22, 0))
	w.expectTick(n, 1)
	w.publish(a)
	w.expectTick(n, 2, load(a, 22))
	w.retract(a)
	w.expectTick(n, 3, drop(a, 22))
	w.expectTick(n, 4)
	w.expectTick(n, 5)
	w.do(api.Txn{Add: []api.Meta{published(a, []byte("bytes"), 7)}})
	w.expectTick(n, 6, load(a, 22))
	w.expectTick(n, 7)
	w.retract(a)
	tell(n, have(22, 0))
	w.expectTick(n, 8, drop(a, 22))
	w.expectTick(n, 9)
	// The load of 2 is over; the drop of 3, the load of 6, the drop of 8 are under way.
	tell(n, have(22, 3, a))
	w.expectTick(n, 10)
	w.do(api.Txn{Add: []api.Meta{published(a, []byte("bytes"), 7)}})
	w.expectTick(n, 11, load(a, 22))
	tell(n, have(22, 8))
	w.expectTick(n, 12)
	// All but the load of 11 is over.
	tell(n, have(22, 11, a))
	w.expectTick(n, 13)
	tell(n, have(22, 12))
	w.expectTick(n, 14, load(a, 22))
}

// TestUnderWayBelowZero: P21.2, any Count is above a tick below 0.
func TestUnderWayBelowZero(t *testing.T) {
	w, n := rigged(t, ordinary())
	w.publish(chunkOf(0))
	tell(n, have(22, 0))
	w.expectTick(n, -3, load(chunkOf(0), 22))
	w.expectTick(n, -2, load(chunkOf(0), 22))
	w.expectTick(n, 0, load(chunkOf(0), 22))
	w.expectTick(n, 1)
	tell(n, have(22, 1))
	w.expectTick(n, 2, load(chunkOf(0), 22))
}

// TestUnderWayNever: P21.2, no order is under way behind the greatest of all Counts, as at no tick there is a greater one.
func TestUnderWayNever(t *testing.T) {
	for _, count := range []uint64{1 << 63, math.MaxUint64} {
		w, n := rigged(t, ordinary())
		w.publish(chunkOf(0))
		tell(n, have(22, count))
		for _, now := range []int{math.MaxInt - 2, math.MaxInt - 1, math.MaxInt} {
			w.expectTick(n, now, load(chunkOf(0), 22))
		}
	}
	w, n := rigged(t, ordinary())
	w.publish(chunkOf(0))
	tell(n, have(22, math.MaxInt))
	w.expectTick(n, math.MaxInt-1, load(chunkOf(0), 22))
	w.expectTick(n, math.MaxInt, load(chunkOf(0), 22))
	w.expectTick(n, math.MaxInt)
}

// TestUnderWayBackwards: P21.2, ticks whose numbers go back: what was sent at each of them counts till there is a Count above its own.
func TestUnderWayBackwards(t *testing.T) {
	a := chunkOf(0)
	w, n := rigged(t, ordinary())
	w.publish(a)
	tell(n, have(22, 1))
	w.expectTick(n, 10, load(a, 22))
	w.retract(a)
	w.expectTick(n, 5, drop(a, 22))
	w.expectTick(n, 6)
	// The drop is over, the load isn't.
	tell(n, have(22, 7))
	w.expectTick(n, 8, drop(a, 22))
	w.expectTick(n, 9)
}

// TestUnderWayTillItLeadsNoMore: P21.2, none is under way, once it leads no more.
func TestUnderWayTillItLeadsNoMore(t *testing.T) {
	a, b := chunkOf(0), chunkOf(10)
	for name, c := range map[string]struct {
		end  func(w *world, n, other *Node) // of its leading
		term int                            // behind one's own Elect again
	}{
		"another's Elect, seen at a tick": {func(w *world, n, other *Node) {
			expectCode(t, other.Elect(w), api.OK)
			w.expectTick(n, 4)
		}, 3},
		"another's Elect, unseen": {func(w *world, n, other *Node) { expectCode(t, other.Elect(w), api.OK) }, 3},
		"another's Elect, seen by Compact": {func(w *world, n, other *Node) {
			expectCode(t, other.Elect(w), api.OK)
			expectCode(t, n.Compact(span(0, 20), w, w), api.ErrTerm)
		}, 3},
		"another's Elect, told by a refusal": {func(w *world, n, other *Node) {
			w.ahead = func() { expectCode(t, other.Elect(w), api.OK) }
			expectCode(t, n.Wipe(span(50, 51), w, w), api.ErrTerm)
			w.ahead = nil
			expectTerm(t, n, 0)
		}, 3},
		"one's own Elect": {func(w *world, n, other *Node) {}, 2},
		"an Elect that failed": {func(w *world, n, other *Node) {
			w.fate = failing("Elect", unheard)
			expectCode(t, n.Elect(w), api.ErrPower)
			w.fate = nil
		}, 3},
	} {
		w, n := rigged(t, ordinary())
		other := w.node(api.Leader + 1)
		w.publish(a, b)
		tell(n, have(22, 1, chunkOf(40)))
		w.expectTick(n, 2, drop(chunkOf(40), 22), load(a, 22), load(b, 22))
		w.expectTick(n, 3)
		c.end(w, n, other)
		expectCode(t, n.Elect(w), api.OK)
		t.Log(name)
		expectTerm(t, n, c.term)
		w.expectTick(n, 5, drop(chunkOf(40), 22), load(a, 22), load(b, 22))
		w.expectTick(n, 6)
		tell(n, have(22, 6, a))
		w.expectTick(n, 7, load(b, 22))
	}
}

// TestUnderWayOfTwo: P21.2, what another one ordered isn't under way here.
func TestUnderWayOfTwo(t *testing.T) {
	w, n := rigged(t, ordinary())
	other := w.node(api.Leader + 1)
	w.publish(chunkOf(0))
	tell(n, have(22, 1))
	tell(other, have(22, 1), have(21, 1))
	w.expectTick(n, 2, load(chunkOf(0), 22))
	expectCode(t, other.Elect(w), api.OK)
	w.expectTick(other, 3, load(chunkOf(0), 21))
	w.expectTick(n, 3)
	w.expectTick(other, 4)
}

// TestNoBalance: P21.2, Balance isn't asked: what is where it should be stays, however uneven.
func TestNoBalance(t *testing.T) {
	w, n := rigged(t, ordinary())
	w.publish(chunkOf(0), chunkOf(10), chunkOf(20))
	tell(n, have(21, 1, chunkOf(0), chunkOf(10), chunkOf(20)), have(22, 1), have(23, 1))
	w.expectTick(n, 1)
	w.expectTick(n, 2)
}
