package realtime

import (
	"slices"
	"testing"

	"gristmill/api"
)

// TestServedOrder: P19.6, Served by Spans, Versions, Parts, whatever the order of the batches; told likewise.
func TestServedOrder(t *testing.T) {
	w, n := rigged(t, ordinary())
	// Each batch has a fact of 95 as well, for which it is kept when its other segments went out of the state.
	w.publish(seg(20, 40, 2, 0, 1), seg(40, 50, 1, 6, 0), seg(50, 60, 7, 0, 0))
	w.sealed(n, 1, 35, 22, 41, 51, 75, 95)
	w.drop(w.segs()[:len(w.segs())-1]...)
	l := w.sealed(n, 2, 31, 22, 41, 51, 65, 3, 95)
	want := []api.Seg{
		seg(0, 10, 1, 0, 0),
		seg(20, 30, 1, 0, 0), seg(20, 40, 2, 1, 1), seg(20, 40, 2, 2, 1),
		seg(30, 40, 1, 0, 0),
		seg(40, 50, 1, 0, 0), seg(40, 50, 1, 7, 0),
		seg(50, 60, 1, 0, 0), seg(50, 60, 7, 1, 0),
		seg(60, 70, 1, 0, 0), seg(70, 80, 1, 0, 0),
		seg(90, 100, 1, 0, 0), seg(90, 100, 1, 1, 0),
	}
	expectSegs(t, n.Served(), want...)
	expectMsgs(t, l, have(2, 0, want...))
}

// TestHave: P19.6, MsgHave at the tick at which Served changed, every Retry ticks, and none while nothing is served.
func TestHave(t *testing.T) {
	for _, retry := range []int{1, 2, 3, 7} {
		s := ordinary()
		s.Retry = retry
		w, n := rigged(t, s)
		for now := 1; now < 10; now++ {
			expectMsgs(t, n.Tick(now, w, w))
		}
		expectMsgs(t, w.sealed(n, 10, 3), have(10, 0, chunkOf(0)))
		for now := 11; now < 30; now++ {
			if (now-10)%retry == 0 {
				expectMsgs(t, n.Tick(now, w, w), have(now, 0, chunkOf(0)))
			} else {
				expectMsgs(t, n.Tick(now, w, w))
			}
		}
		// A change is told at once, and Retry ticks go by from then on.
		both := []api.Seg{chunkOf(0), chunkOf(10)}
		expectMsgs(t, w.sealed(n, 30, 13), have(30, 0, both...))
		for now := 31; now < 50; now++ {
			if (now-30)%retry == 0 {
				expectMsgs(t, n.Tick(now, w, w), have(now, 0, both...))
			} else {
				expectMsgs(t, n.Tick(now, w, w))
			}
		}
		n.Handle(have21(chunkOf(0)))
		expectMsgs(t, n.Tick(50, w, w), have(50, 0, chunkOf(10)))
		n.Handle(have21(chunkOf(10)))
		expectMsgs(t, n.Tick(51, w, w), have(51, 0))
		for now := 52; now < 70; now++ {
			expectMsgs(t, n.Tick(now, w, w))
		}
		// While others are away it is told, too.
		expectMsgs(t, w.sealed(n, 70, 3), have(70, 0, seg(0, 10, 1, 1, 0)))
		for now := 70 + retry; now < 90; now += retry {
			expectMsgs(t, n.Tick(now, nil, nil), have(now, 0, seg(0, 10, 1, 1, 0)))
		}
	}
}

// TestHaveLater: P19.6, ticks whose numbers aren't side by side.
func TestHaveLater(t *testing.T) {
	w, n := rigged(t, ordinary())
	expectMsgs(t, w.sealed(n, 100, 3), have(100, 0, chunkOf(0)))
	expectMsgs(t, n.Tick(102, w, w))
	expectMsgs(t, n.Tick(105, w, w), have(105, 0, chunkOf(0)))
	expectMsgs(t, n.Tick(1<<40, w, w), have(1<<40, 0, chunkOf(0)))
	expectMsgs(t, n.Tick(1<<40+3, w, w), have(1<<40+3, 0, chunkOf(0)))
}

// TestHavesTaken: P19.6, MsgHave of historical nodes, and of others, with none, some and all of a batch's segments.
func TestHavesTaken(t *testing.T) {
	a, b := chunkOf(0), chunkOf(10)
	for name, c := range map[string]struct {
		haves []api.Msg
		goes  bool
	}{
		"nobody":               {nil, false},
		"without segments":     {[]api.Msg{have21()}, false},
		"all at once":          {[]api.Msg{have21(a, b)}, true},
		"the other way round":  {[]api.Msg{have21(b, a)}, true},
		"twice":                {[]api.Msg{have21(a, a)}, false},
		"one":                  {[]api.Msg{have21(a)}, false},
		"the other one":        {[]api.Msg{have21(b)}, false},
		"one behind the other": {[]api.Msg{have21(b), have21(), have21(a)}, true},
		"by two nodes":         {[]api.Msg{have21(b), {From: api.Store + 1, Segs: []api.Seg{a}}}, true},
		"among others":         {[]api.Msg{have21(chunkOf(20), b, seg(0, 10, 2, 0, 0), a, seg(0, 20, 1, 0, 0))}, true},
		"others alone":         {[]api.Msg{have21(seg(0, 10, 2, 0, 0), seg(0, 10, 1, 1, 0), seg(0, 10, 1, 0, 1), b)}, false},
		"the first node":       {[]api.Msg{{From: 21, Segs: []api.Seg{a, b}}}, true},
		"the last node":        {[]api.Msg{{From: 40, Segs: []api.Seg{a, b}}}, true},
		"below the first":      {[]api.Msg{{From: 20, Segs: []api.Seg{a, b}}}, false},
		"above the last":       {[]api.Msg{{From: 41, Segs: []api.Seg{a, b}}}, false},
		"the client":           {[]api.Msg{{From: api.Client, Segs: []api.Seg{a, b}}}, false},
		"another stream":       {[]api.Msg{{From: api.Realtime + 1, Segs: []api.Seg{a, b}}}, false},
		"itself":               {[]api.Msg{{From: api.Realtime, Segs: []api.Seg{a, b}}}, false},
		"the broker":           {[]api.Msg{{From: api.Broker, Segs: []api.Seg{a, b}}}, false},
		"half by another":      {[]api.Msg{have21(a), {From: api.Broker, Segs: []api.Seg{b}}}, false},
		"by one below 0":       {[]api.Msg{{From: -21, Segs: []api.Seg{a, b}}}, false},
	} {
		for _, away := range []bool{false, true} {
			w, n := rigged(t, ordinary())
			w.sealed(n, 1, 3, 12)
			facts := w.client[0]
			for _, m := range c.haves {
				m.Kind = api.MsgHave
				expectMsgs(t, n.Handle(m))
			}
			// Nothing goes ahead of a tick.
			expectWaiting(t, n, 1)
			expectSegs(t, n.Served(), a, b)
			expectTail(t, n, all(), 0, facts, 2)
			if away {
				n.Tick(2, nil, nil)
			} else {
				n.Tick(2, w, w)
			}
			if gone := n.Waiting() == 0; gone != c.goes {
				t.Fatal(name, away, n.Waiting())
			}
			if c.goes {
				expectSegs(t, n.Served())
				expectNoTail(t, n, all(), 1, api.ErrGone)
				expectTail(t, n, all(), 2, nil, 2)
				expectNoPiece(t, n, all(), api.Piece{Seg: a, Span: a.Span}, api.ErrNone)
			} else {
				expectSegs(t, n.Served(), a, b)
				expectTail(t, n, all(), 0, facts, 2)
				expectPiece(t, n, all(), api.Piece{Seg: a, Span: a.Span}, facts[:1])
			}
		}
	}
}

// TestHaveOfOtherKinds: P19.6, segments that stand in messages of other kinds aren't there for it.
func TestHaveOfOtherKinds(t *testing.T) {
	w, n := rigged(t, ordinary())
	w.sealed(n, 1, 3)
	for _, kind := range []int{0, api.MsgTake, api.MsgPart, api.MsgOrder, 8} {
		n.Handle(api.Msg{Kind: kind, From: api.Store, Segs: []api.Seg{chunkOf(0)}, Order: api.Order{Seg: chunkOf(0)}})
	}
	n.Tick(2, w, w)
	expectSegs(t, n.Served(), chunkOf(0))
}

// TestToldEarly: P19.6, what was told ahead of a segment's publishing meant another one.
func TestToldEarly(t *testing.T) {
	w, n := rigged(t, ordinary())
	n.Handle(have21(chunkOf(0)))
	w.take(n, 3)
	n.Seal()
	n.Handle(have21(chunkOf(0)))
	n.Tick(1, w, w)
	n.Tick(2, w, w)
	expectSegs(t, n.Served(), chunkOf(0))
	n.Handle(have21(chunkOf(0)))
	n.Tick(3, w, w)
	expectSegs(t, n.Served())
}

// TestInOrder: P19.6, batches are forgotten in their order, whichever is told first.
func TestInOrder(t *testing.T) {
	w, n := rigged(t, ordinary())
	for now := range 4 {
		w.sealed(n, now+1, int64(10*now+3))
	}
	w.take(n, 1)
	facts := w.client[0]
	expectFrom := func(now, first int) {
		t.Helper()
		n.Tick(now, w, w)
		expectWaiting(t, n, 5-first)
		var want []api.Seg
		for at := first; at < 4; at++ {
			want = append(want, chunkOf(int64(10*at)))
		}
		expectSegs(t, n.Served(), want...)
		for offset := range facts {
			if offset < first {
				expectNoTail(t, n, all(), uint64(offset), api.ErrGone)
			} else {
				expectTail(t, n, all(), uint64(offset), facts[offset:], 5)
			}
		}
	}
	n.Handle(have21(chunkOf(20)))
	expectFrom(5, 0)
	n.Handle(have21(chunkOf(10)))
	expectFrom(6, 0)
	n.Handle(have21(chunkOf(0)))
	expectFrom(7, 3)
	n.Handle(have21(chunkOf(30)))
	expectFrom(8, 4)
	// A batch that isn't published isn't forgotten, whatever is told.
	n.Seal()
	n.Tick(9, nil, w)
	n.Handle(have21(seg(0, 10, 1, 0, 0), seg(0, 10, 1, 1, 0)))
	n.Tick(10, nil, w)
	expectWaiting(t, n, 1)
	expectTail(t, n, all(), 4, facts[4:], 5)
}

// TestOutOfState: P19.6, segments that went out of the state needn't be told; the others of their batch must.
func TestOutOfState(t *testing.T) {
	w, n := rigged(t, ordinary())
	w.sealed(n, 1, 3, 12, 25)
	w.sealed(n, 2, 37, 4)
	w.drop(chunkOf(0), chunkOf(20))
	// Nobody tells the state: nothing is known to be out of it.
	n.Handle(have21(chunkOf(10)))
	n.Tick(3, nil, w)
	n.Tick(4, &told{state: published(9, 9).state, code: api.ErrPower}, w)
	expectWaiting(t, n, 2)
	expectMsgs(t, n.Tick(5, w, w), have(5, 0, seg(0, 10, 1, 1, 0), chunkOf(30)))
	expectWaiting(t, n, 1)
	expectNoTail(t, n, all(), 2, api.ErrGone)
	w.drop(chunkOf(30))
	n.Tick(6, w, w)
	expectWaiting(t, n, 1)
	expectPiece(t, n, all(), api.Piece{Seg: chunkOf(30), Span: chunkOf(30).Span}, []api.Fact{at(37, 3)})
	w.drop(seg(0, 10, 1, 1, 0))
	expectMsgs(t, n.Tick(7, w, w), have(7, 0))
	expectWaiting(t, n, 0)
}

// TestNameAnew: P19.6, a name that went out of the state, and is given anew at the very tick: the elder batch is forgotten, the other one isn't.
func TestNameAnew(t *testing.T) {
	w, n := rigged(t, ordinary())
	w.sealed(n, 1, 3)
	w.drop(chunkOf(0))
	w.sealed(n, 2, 4)
	w.expectDone(2, 0, 2)
	expectSegs(t, n.Served(), chunkOf(0))
	expectWaiting(t, n, 1)
	expectPiece(t, n, all(), api.Piece{Seg: chunkOf(0), Span: api.Span{To: 10}}, []api.Fact{at(4, 1)})
	n.Tick(3, w, w)
	expectWaiting(t, n, 1)
}

// TestWaiting: P19.6, batches sealed, published and forgotten, and facts in none.
func TestWaiting(t *testing.T) {
	w, n := rigged(t, ordinary())
	expectWaiting(t, n, 0)
	w.take(n, 3)
	expectWaiting(t, n, 1)
	w.take(n, 4)
	expectWaiting(t, n, 1)
	n.Seal()
	expectWaiting(t, n, 1)
	// Sealed, though it can't be published.
	n.Tick(1, w, nil)
	expectWaiting(t, n, 1)
	w.take(n, 15)
	expectWaiting(t, n, 2)
	n.Tick(2, w, w)
	expectWaiting(t, n, 2)
	w.expectDone(1, 0, 2)
	n.Seal()
	n.Tick(3, w, w)
	expectWaiting(t, n, 2)
	n.Handle(have21(chunkOf(0)))
	expectWaiting(t, n, 2)
	n.Tick(4, w, w)
	expectWaiting(t, n, 1)
	w.take(n, 1)
	expectWaiting(t, n, 2)
	n.Handle(have21(chunkOf(10)))
	n.Tick(5, w, w)
	expectWaiting(t, n, 1)
	n.Seal()
	n.Tick(6, w, w)
	n.Handle(have21(seg(0, 10, 1, 1, 0)))
	n.Tick(7, w, w)
	expectWaiting(t, n, 0)
}

// TestBorn: P19.1, P19.7, a node that is made behind another one goes on where the book says, and serves nothing of its.
func TestBorn(t *testing.T) {
	w, n := rigged(t, ordinary())
	w.sealed(n, 1, 3, 12)
	w.take(n, 4)
	again := w.node(0)
	if again.Taken() != 2 {
		t.Fatal(again.Taken())
	}
	expectMsgs(t, again.Tick(1, w, w))
	expectSegs(t, again.Served())
	expectNoPiece(t, again, all(), api.Piece{Seg: chunkOf(0), Span: api.Span{To: 10}}, api.ErrNone)
	w.sealed(again, 2, 4, 5)
	w.expectDone(2, 0, 4)
	expectSegs(t, again.Served(), seg(0, 10, 1, 1, 0))
	w.expectOut(0)
}

// TestExamples: the table of the section 'Examples'.
func TestExamples(t *testing.T) {
	w, n := rigged(t, ordinary())
	f := at(3, 1)
	expectTake(t, n, 2, f, 0, api.ErrGap)
	expectTake(t, n, 1, f, 1, api.OK)
	expectTake(t, n, 1, f, 1, api.OK)
	expectTail(t, n, all(), 0, []api.Fact{f}, 1)
	if !slices.Equal(w.state().Offsets, []uint64{0, 0}) {
		t.Fatal(w.state())
	}
}
