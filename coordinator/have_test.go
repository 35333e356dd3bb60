package coordinator

import (
	"math"
	"testing"

	"gristmill/api"
)

// TestHave: P21.2, a node has what the one of its MsgHave with the greatest Count told, of several with it the first one.
func TestHave(t *testing.T) {
	one, two, three := chunkOf(0), chunkOf(10), chunkOf(20)
	unlike := one
	unlike.Core = 7
	for name, c := range map[string]struct {
		told []api.Msg
		want []api.Order
	}{
		"nobody told":         {nil, nil},
		"nothing":             {[]api.Msg{have(22, 5)}, []api.Order{load(one, 22), load(two, 22), load(three, 22)}},
		"one":                 {[]api.Msg{have(22, 5, two)}, []api.Order{load(one, 22), load(three, 22)}},
		"all, not as they go": {[]api.Msg{have(22, 5, three, one, two)}, nil},
		"one often":           {[]api.Msg{have(22, 5, one, one, two, one)}, []api.Order{load(three, 22)}},
		"a count below":       {[]api.Msg{have(22, 5, one, two), have(22, 4, three)}, []api.Order{load(three, 22)}},
		"the count again":     {[]api.Msg{have(22, 5, one, two), have(22, 5, three)}, []api.Order{load(three, 22)}},
		"a count above":       {[]api.Msg{have(22, 5, one, two), have(22, 6, three)}, []api.Order{load(one, 22), load(two, 22)}},
		"nothing later":       {[]api.Msg{have(22, 5, one, two, three), have(22, 6)}, []api.Order{load(one, 22), load(two, 22), load(three, 22)}},
		"nothing earlier":     {[]api.Msg{have(22, 5, one, two, three), have(22, 4)}, nil},
		"count 0 twice":       {[]api.Msg{have(22, 0, one), have(22, 0, two)}, []api.Order{load(two, 22), load(three, 22)}},
		"the greatest count": {
			[]api.Msg{have(22, math.MaxUint64, one, two), have(22, 0, three), have(22, 1<<63, three)}, []api.Order{load(three, 22)},
		},
		"a count beyond int": {[]api.Msg{have(22, 1<<63-1, one, two), have(22, 1<<63, three)}, []api.Order{load(one, 22), load(two, 22)}},
		"what isn't shown": {
			[]api.Msg{have(22, 5, chunkOf(50), one, seg(0, 10, 9, 0, 1), unlike, two, three)},
			[]api.Order{drop(unlike, 22), drop(seg(0, 10, 9, 0, 1), 22), drop(chunkOf(50), 22)},
		},
		"what is like another": {[]api.Msg{have(22, 5, unlike, two, three)}, []api.Order{drop(unlike, 22), load(one, 22)}},
		"what may not be": {
			[]api.Msg{have(22, 5, seg(9, 3, -1, -2, -3), one, two, three, seg(-5, most+7, 0, 0, 0))},
			[]api.Order{drop(seg(-5, most+7, 0, 0, 0), 22), drop(seg(9, 3, -1, -2, -3), 22)},
		},
		"two nodes": {
			[]api.Msg{have(22, 5, one), have(23, 1, two), have(22, 4, two), have(23, 2, three)},
			[]api.Order{load(two, 22)},
		},
	} {
		w, n := rigged(t, ordinary())
		w.publish(one, two, three)
		tell(n, c.told...)
		t.Log(name)
		w.expectTick(n, 100, c.want...)
	}
}

// TestHaveAtAnyTime: P21.2, what was told ahead of an Elect counts, and so does what was told many ticks ago.
func TestHaveAtAnyTime(t *testing.T) {
	s := ordinary()
	s.Retry = 1000
	w := newWorld(t, s)
	w.publish(chunkOf(0), chunkOf(10))
	n := w.node(api.Leader)
	tell(n, have(21, 900, chunkOf(10)), have(21, 899))
	w.expectTick(n, 1)
	tell(n, have(21, 3, chunkOf(0)))
	w.expectTick(n, 2)
	expectCode(t, n.Elect(w), api.OK)
	for now := 3; now < 900; now++ {
		tell(n, have(21, uint64(now)))
		w.expectTick(n, now, load(chunkOf(0), 21))
	}
	w.expectTick(n, 900, load(chunkOf(0), 21))
	tell(n, have(21, 901, chunkOf(0)))
	w.expectTick(n, 901, load(chunkOf(10), 21))
}

// TestUnheardOf: P21.2, messages of other kinds, and of nodes that aren't historical nodes of the setup, say nothing.
func TestUnheardOf(t *testing.T) {
	for _, stores := range []int{1, 3, 16} {
		s := ordinary()
		s.Stores = stores
		w, n := rigged(t, s)
		w.publish(chunkOf(0), chunkOf(10))
		now := 0
		expectNothing := func(m api.Msg) {
			t.Helper()
			tell(n, m)
			now++
			w.expectTick(n, now)
		}
		for _, node := range []int{
			math.MinInt, -21, -1, api.Client, api.Realtime, api.Store - 1, api.Store + stores, api.Store + 16,
			api.Leader - 1, api.Leader, api.Leader + 1, api.Broker, math.MaxInt,
		} {
			expectNothing(have(node, 5, chunkOf(0)))
		}
		for _, kind := range []int{
			math.MinInt, -1, 0, api.MsgFact, api.MsgTake, api.MsgAsk, api.MsgTail, api.MsgPart, api.MsgOrder, api.MsgHave + 1, math.MaxInt,
		} {
			m := have(api.Store, 5, chunkOf(0))
			m.Kind = kind
			expectNothing(m)
		}
		// Nor does what is told beside a MsgHave by those who are no nodes of the setup change what those have that are.
		last := api.Store + stores - 1
		tell(n, have(last, 1), have(last+1, 7, chunkOf(0)), have(api.Store-1, 7, chunkOf(0)))
		w.expectTick(n, now+1, load(chunkOf(0), last), load(chunkOf(10), last))
		if stores > 1 {
			continue
		}
		tell(n, have(last, uint64(now+2), chunkOf(0)))
		w.expectTick(n, now+2, load(chunkOf(10), last))
	}
}

// TestAlive: P21.2, who lives 3 times Retry ticks behind its last MsgHave, and doesn't one tick later.
func TestAlive(t *testing.T) {
	for _, retry := range []int{1, 2, 1000} {
		s := ordinary()
		s.Retry = retry
		for ago, lives := range map[int]bool{
			0: true, 1: true, 3*retry - 1: true, 3 * retry: true, 3*retry + 1: false, 3*retry + 2: false, 100 * retry: false,
		} {
			for _, between := range []int{0, 1, 3} {
				w, n := rigged(t, s)
				tell(n, have(22, 900, chunkOf(10)))
				w.expectTick(n, 50, drop(chunkOf(10), 22))
				w.publish(chunkOf(0), chunkOf(10))
				// Ticks between change nothing, nor does what other nodes tell.
				for k := 1; k <= between && k*ago/4 > 0; k++ {
					w.fate = failing("State", lost)
					w.expectTick(n, 50+k*ago/4)
					w.fate = nil
				}
				want := []api.Order{load(chunkOf(0), 22)}
				if !lives {
					want = nil
				}
				w.expectTick(n, 50+ago, want...)
			}
		}
	}
}

// TestHeard: P21.2, a MsgHave counts as heard at the tick behind it, whatever that tick does; one that tells nothing new, too.
func TestHeard(t *testing.T) {
	s := ordinary() // 3 times Retry: 6
	for name, c := range map[string]struct {
		tell func(w *world, n *Node)
		last int // at which it is alive
	}{
		"one tick": {func(w *world, n *Node) {
			tell(n, have(22, 1))
			w.expectTick(n, 10)
		}, 16},
		"long after it was told": {func(w *world, n *Node) {
			w.expectTick(n, 1)
			tell(n, have(22, 1))
			w.expectTick(n, 900)
		}, 906},
		"again": {func(w *world, n *Node) {
			tell(n, have(22, 1))
			w.expectTick(n, 10)
			tell(n, have(22, 2))
			w.expectTick(n, 14)
		}, 20},
		"the same again": {func(w *world, n *Node) {
			tell(n, have(22, 1))
			w.expectTick(n, 10)
			tell(n, have(22, 1))
			w.expectTick(n, 14)
		}, 20},
		"an elder one again": {func(w *world, n *Node) {
			tell(n, have(22, 7))
			w.expectTick(n, 10)
			tell(n, have(22, 0))
			w.expectTick(n, 14)
		}, 20},
		"other kinds again": {func(w *world, n *Node) {
			tell(n, have(22, 1))
			w.expectTick(n, 10)
			m := have(22, 2)
			m.Kind = api.MsgPart
			tell(n, m)
			w.expectTick(n, 14)
		}, 16},
		"others again": {func(w *world, n *Node) {
			tell(n, have(22, 1))
			w.expectTick(n, 10)
			tell(n, have(24, 1), have(1, 1))
			w.expectTick(n, 14)
		}, 16},
		"the book away": {func(w *world, n *Node) {
			tell(n, have(22, 1))
			w.fate = failing("State", lost)
			w.expectTick(n, 10)
			w.fate = nil
			w.expectTick(n, 14)
		}, 16},
		"no book": {func(w *world, n *Node) {
			tell(n, have(22, 1))
			expectOrders(t, n.Tick(10, nil, nil), api.Leader, 1)
			w.expectTick(n, 14)
		}, 16},
		"another leads": {func(w *world, n *Node) {
			expectCode(t, w.node(42).Elect(w), api.OK)
			tell(n, have(22, 1))
			w.expectTick(n, 10)
			tell(n, have(22, 1))
			w.expectTick(n, 13)
			expectCode(t, n.Elect(w), api.OK)
			w.expectTick(n, 14)
		}, 19},
		"ticks that go back": {func(w *world, n *Node) {
			tell(n, have(22, 1))
			w.expectTick(n, 10)
			tell(n, have(22, 1))
			w.expectTick(n, 5)
		}, 11},
		"below 0": {func(w *world, n *Node) {
			tell(n, have(22, 1))
			w.expectTick(n, -100)
		}, -94},
		"the least tick": {func(w *world, n *Node) {
			tell(n, have(22, 1))
			w.expectTick(n, math.MinInt)
		}, math.MinInt + 6},
	} {
		for later, lives := range map[int]bool{0: true, 1: false, 500: false} {
			w, n := rigged(t, s)
			c.tell(w, n)
			w.publish(chunkOf(0))
			t.Log(name, later)
			if lives {
				w.expectTick(n, c.last+later, load(chunkOf(0), 22))
			} else {
				w.expectTick(n, c.last+later)
				// It lives again, when it tells something again.
				tell(n, have(22, 0))
				w.expectTick(n, c.last+later, load(chunkOf(0), 22))
			}
		}
	}
}

// TestBackwards: P21.2, at a tick whose number is below that of an earlier one what was heard and seen then isn't long ago.
func TestBackwards(t *testing.T) {
	w, n := rigged(t, ordinary())
	w.put("loose")
	tell(n, have(22, 1))
	w.expectTick(n, 100)
	w.publish(chunkOf(0))
	w.expectTick(n, 5, load(chunkOf(0), 22))
	w.expectTick(n, 103)
	w.expectBlobs("loose", nameOf(chunkOf(0)))
	w.expectTick(n, 104)
	w.expectBlobs(nameOf(chunkOf(0)))
}

// TestFarTicks: rule 1, P21.2, ticks that lie further apart than the greatest int.
func TestFarTicks(t *testing.T) {
	for _, ticks := range [][2]int{{math.MinInt, math.MaxInt}, {-5, math.MaxInt}, {math.MinInt, 5}, {math.MinInt, -1 << 40}} {
		w, n := rigged(t, ordinary())
		w.put("loose")
		tell(n, have(22, 1))
		w.expectTick(n, ticks[0])
		w.expectBlobs("loose")
		w.publish(chunkOf(0))
		w.expectTick(n, ticks[1])
		w.expectBlobs(nameOf(chunkOf(0)))
		for _, now := range []int{math.MinInt, math.MaxInt, 0, math.MaxInt - 1, math.MinInt + 1} {
			n.Tick(now, w, w)
		}
		w.expectBlobs(nameOf(chunkOf(0)))
	}
}
