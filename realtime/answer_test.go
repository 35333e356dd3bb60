package realtime

import (
	"math"
	"strings"
	"testing"

	"gristmill/api"
	"gristmill/engine"
)

// sent is a fact as a client sends it, with an Ask and more that has no meaning in it.
func sent(offset uint64, f api.Fact) api.Msg {
	return api.Msg{
		Kind: api.MsgFact, From: 77, To: 88, Id: 5, Ask: 1000 + offset, Offset: offset, Term: 3, Count: 4, Code: 6, Fact: f,
		Segs: []api.Seg{chunkOf(0)}, Groups: []api.Group{{}},
	}
}

// expectTake sends a fact, and expects the whole answer.
func expectTake(t *testing.T, n *Node, offset uint64, f api.Fact, taken uint64, code api.Errno) {
	t.Helper()
	expectMsgs(t, n.Handle(sent(offset, f)), api.Msg{
		Kind: api.MsgTake, From: n.number(), To: 77, Ask: 1000 + offset, Offset: taken, Code: code,
	})
	if n.Taken() != taken {
		t.Fatalf("%d taken, not %d", n.Taken(), taken)
	}
}

// wrongFacts are those that the ordinary schema doesn't allow.
func wrongFacts() []api.Fact {
	return []api.Fact{
		{},
		{Time: -1, Dims: []string{"a"}, Meas: []int64{1}},
		{Time: most, Dims: []string{"a"}, Meas: []int64{1}},
		{Time: 1, Dims: []string{strings.Repeat("a", 65)}, Meas: []int64{1}},
		{Time: 1, Dims: []string{"a", "b"}, Meas: []int64{1}},
		{Time: 1, Meas: []int64{1}},
		{Time: 1, Dims: []string{"a"}},
		{Time: 1, Dims: []string{"a"}, Meas: []int64{1, 2}},
	}
}

// TestTakes: P19.2, in turn, elder ones, early ones, alike ones again and again.
func TestTakes(t *testing.T) {
	for stream, ahead := range []uint64{0, 41} {
		w := newWorld(t, ordinary())
		w.moveTo(1, 41)
		n := w.node(stream)
		f := at(3, 1)
		expectTake(t, n, ahead+2, f, ahead, api.ErrGap)
		expectTake(t, n, 0, f, ahead, api.OK)
		expectTake(t, n, ahead, f, ahead, api.OK)
		expectTake(t, n, ahead+1, f, ahead+1, api.OK)
		expectTake(t, n, ahead+1, f, ahead+1, api.OK)
		expectTake(t, n, ahead+2, f, ahead+2, api.OK)
		expectTake(t, n, ahead+3, at(most-1, 2), ahead+3, api.OK)
		expectTake(t, n, ahead+1, at(9, 9), ahead+3, api.OK)
		expectTake(t, n, ahead+3, f, ahead+3, api.OK)
		expectTake(t, n, ahead+5, f, ahead+3, api.ErrGap)
		expectTake(t, n, highest-1, f, ahead+3, api.ErrGap)
		expectTake(t, n, highest, f, ahead+3, api.ErrGap)
		expectTake(t, n, 1<<63, f, ahead+3, api.ErrGap)
		expectWaiting(t, n, 1)
		expectTail(t, n, all(), ahead, []api.Fact{f, f, at(most-1, 2)}, ahead+3)
	}
}

// TestTakesWrong: P19.2, facts that may not be: ErrFact at their turn alone.
func TestTakesWrong(t *testing.T) {
	w := newWorld(t, ordinary())
	w.moveTo(0, 7)
	n := w.node(0)
	for _, wrong := range wrongFacts() {
		for taken := uint64(7); taken < 10; taken++ {
			n = w.node(0)
			for offset := uint64(8); offset <= taken; offset++ {
				expectTake(t, n, offset, at(1, 1), offset, api.OK)
			}
			expectTake(t, n, taken+1, wrong, taken, api.ErrFact)
			expectTake(t, n, taken+1, wrong, taken, api.ErrFact)
			expectTake(t, n, taken+2, wrong, taken, api.ErrGap)
			expectTake(t, n, taken, wrong, taken, api.OK)
			expectTake(t, n, 0, wrong, taken, api.OK)
			expectTake(t, n, highest, wrong, taken, api.ErrGap)
			expectTake(t, n, taken+1, at(1, 1), taken+1, api.OK)
		}
	}
}

// TestTakesLast: P19.2, the last offsets that there are; behind the last one nothing turns round.
func TestTakesLast(t *testing.T) {
	w := newWorld(t, ordinary())
	w.moveTo(0, highest-2)
	n := w.node(0)
	expectTake(t, n, 0, at(1, 1), highest-2, api.OK)
	expectTake(t, n, highest, at(1, 1), highest-2, api.ErrGap)
	expectTake(t, n, highest-1, at(1, 1), highest-1, api.OK)
	expectTake(t, n, highest, wrongFacts()[0], highest-1, api.ErrFact)
	expectTake(t, n, highest, at(2, 2), highest, api.OK)
	for _, offset := range []uint64{0, 1, 2, highest - 1, highest} {
		expectTake(t, n, offset, at(3, 3), highest, api.OK)
		expectTake(t, n, offset, wrongFacts()[0], highest, api.OK)
	}
	expectTail(t, n, all(), highest-2, []api.Fact{at(1, 1), at(2, 2)}, highest)
	expectTail(t, n, all(), highest, nil, highest)
	expectNoTail(t, n, all(), 0, api.ErrGone)
	expectWaiting(t, n, 1)
	w.moveTo(1, highest)
	n = w.node(1)
	for _, offset := range []uint64{0, 1, highest} {
		expectTake(t, n, offset, at(3, 3), highest, api.OK)
	}
	expectTail(t, n, all(), highest, nil, highest)
	expectNoTail(t, n, all(), highest-1, api.ErrGone)
	expectWaiting(t, n, 0)
}

// asked is a broker's message, with more that has no meaning in it.
func asked(kind int, q api.Query, offset uint64, p api.Piece) api.Msg {
	return api.Msg{
		Kind: kind, From: api.Broker, To: 99, Id: 7, Ask: 123, Offset: offset, Term: 8, Count: 9, Code: 2, Query: q, Piece: p,
		Fact: at(1, 1), Segs: []api.Seg{chunkOf(0)}, Groups: []api.Group{{}},
	}
}

// expectTail asks for what is behind an offset, and expects the groups of those facts.
func expectTail(t *testing.T, n *Node, q api.Query, offset uint64, facts []api.Fact, taken uint64) {
	t.Helper()
	groups, err := engine.Plain(n.Schema, q, each(facts), api.Span{From: math.MinInt64, To: math.MaxInt64})
	if err != nil {
		t.Fatal(err)
	}
	expectMsgs(t, n.Handle(asked(api.MsgTail, q, offset, api.Piece{Seg: chunkOf(10)})), api.Msg{
		Kind: api.MsgPart, From: n.number(), To: api.Broker, Ask: 123, Offset: taken, Groups: groups,
	})
}

func expectNoTail(t *testing.T, n *Node, q api.Query, offset uint64, code api.Errno) {
	t.Helper()
	expectMsgs(t, n.Handle(asked(api.MsgTail, q, offset, api.Piece{})), api.Msg{
		Kind: api.MsgPart, From: n.number(), To: api.Broker, Ask: 123, Code: code,
	})
}

// expectPiece asks for a piece of a segment, and expects the groups of those of its facts that are within it.
func expectPiece(t *testing.T, n *Node, q api.Query, p api.Piece, facts []api.Fact) {
	t.Helper()
	groups, err := engine.Plain(n.Schema, q, each(facts), p.Span)
	if err != nil {
		t.Fatal(err)
	}
	expectMsgs(t, n.Handle(asked(api.MsgAsk, q, 3, p)), api.Msg{
		Kind: api.MsgPart, From: n.number(), To: api.Broker, Ask: 123, Groups: groups,
	})
}

func expectNoPiece(t *testing.T, n *Node, q api.Query, p api.Piece, code api.Errno) {
	t.Helper()
	expectMsgs(t, n.Handle(asked(api.MsgAsk, q, 3, p)), api.Msg{
		Kind: api.MsgPart, From: n.number(), To: api.Broker, Ask: 123, Code: code,
	})
}

// wrongQueries are those that may not be.
func wrongQueries() []api.Query {
	var wrong []api.Query
	for _, change := range []func(q *api.Query){
		func(q *api.Query) { *q = api.Query{} },
		func(q *api.Query) { q.Span = api.Span{From: -1, To: 5} },
		func(q *api.Query) { q.Span.To = most + 1 },
		func(q *api.Query) { q.Filter.Kind = 0 },
		func(q *api.Query) { q.Filter = api.Filter{Kind: api.FilterIs, Dim: 1} },
		func(q *api.Query) { q.Grain = -1 },
		func(q *api.Query) { q.Sets = nil },
		func(q *api.Query) { q.Sets = [][]int{{1}} },
		func(q *api.Query) { q.Aggs[1].Col = 1 },
		func(q *api.Query) { q.Groups = 0 },
		func(q *api.Query) { q.Rows = -1 },
	} {
		q := all()
		change(&q)
		wrong = append(wrong, q)
	}
	return wrong
}

// queries are of several grouping sets, filters, spans and grains.
func queries() []api.Query {
	is := api.Filter{Kind: api.FilterIs, Texts: []string{"a", "c"}}
	filters := []api.Filter{
		{Kind: api.FilterAll}, is, {Kind: api.FilterNot, Kids: []api.Filter{is}}, {Kind: api.FilterBegin, Texts: []string{"b"}},
		{Kind: api.FilterOr, Kids: []api.Filter{is, {Kind: api.FilterMeas, Lo: 1, Hi: 3}}}, {Kind: api.FilterOr},
	}
	spans := []api.Span{{To: most}, {From: 3, To: 14}, {From: 5, To: 5}, {From: most - 1, To: most}}
	var l []api.Query
	for _, f := range filters {
		for at, s := range spans {
			q := all()
			q.Filter, q.Span, q.Grain = f, s, int64(at*4)
			q.Aggs = append(q.Aggs, api.Agg{Kind: api.AggDistinct}, api.Agg{Kind: api.AggMin}, api.Agg{Kind: api.AggMax})
			l = append(l, q)
		}
	}
	few := all()
	// At most so many groups: that is the broker's to say.
	few.Groups, few.Rows = 1, 1
	return append(l, few, api.Query{Span: api.Span{To: most}, Filter: is, Sets: [][]int{{}, {0}, {0}}, Groups: 1})
}

// TestTail: P19.3, offsets below what was forgotten, at it, between, at how many are taken, above.
func TestTail(t *testing.T) {
	w, n := rigged(t, ordinary())
	expectTail(t, n, all(), 0, nil, 0)
	expectNoTail(t, n, all(), 1, api.ErrGap)
	w.sealed(n, 1, 3, 14, 3)
	w.sealed(n, 2, 15)
	w.take(n, 0, most-1)
	facts := w.client[0]
	expectFrom := func(forgotten int) {
		t.Helper()
		for _, q := range queries() {
			for offset := range facts {
				if offset < forgotten {
					expectNoTail(t, n, q, uint64(offset), api.ErrGone)
				} else {
					expectTail(t, n, q, uint64(offset), facts[offset:], 6)
				}
			}
			expectTail(t, n, q, 6, nil, 6)
			for _, above := range []uint64{7, 8, 1 << 63, highest} {
				expectNoTail(t, n, q, above, api.ErrGap)
			}
		}
	}
	expectFrom(0)
	n.Handle(have21(chunkOf(0), chunkOf(10)))
	expectFrom(0)
	n.Tick(3, w, w)
	expectFrom(3)
	n.Handle(have21(api.Seg{Span: api.Span{From: 10, To: 20}, Version: 1, Part: 1}))
	n.Tick(4, w, w)
	expectFrom(4)
}

// have21 is what the first historical node tells that it has.
func have21(segs ...api.Seg) api.Msg { return api.Msg{Kind: api.MsgHave, From: api.Store, Segs: segs} }

// TestTailNeverHad: P19.3, facts that were published ahead of the node, of a node that is new and of one that goes on.
func TestTailNeverHad(t *testing.T) {
	w := newWorld(t, ordinary())
	w.moveTo(0, 20)
	n := w.node(0)
	for _, q := range queries() {
		for _, gone := range []uint64{0, 1, 19} {
			expectNoTail(t, n, q, gone, api.ErrGone)
		}
		expectTail(t, n, q, 20, nil, 20)
		expectNoTail(t, n, q, 21, api.ErrGap)
	}
	f := at(4, 4)
	expectTake(t, n, 21, f, 21, api.OK)
	expectTail(t, n, all(), 20, []api.Fact{f}, 21)
	expectTail(t, n, all(), 21, nil, 21)
	expectNoTail(t, n, all(), 19, api.ErrGone)
	expectNoTail(t, n, all(), 22, api.ErrGap)
}

// TestWrongQueries: P19.3 and P19.4, ErrQuery ahead of all that might be told else.
func TestWrongQueries(t *testing.T) {
	w := newWorld(t, ordinary())
	w.moveTo(0, 1)
	n := w.node(0)
	w.sealed(n, 1, 5)
	for _, q := range wrongQueries() {
		for _, offset := range []uint64{0, 1, 2, 3, highest} {
			expectNoTail(t, n, q, offset, api.ErrQuery)
		}
		for _, from := range []int64{0, 10} {
			expectNoPiece(t, n, q, api.Piece{Seg: chunkOf(from), Span: chunkOf(from).Span}, api.ErrQuery)
		}
	}
}

// TestPiece: P19.4, segments that are served, not yet, no more, never; pieces that are all, a part, none of it.
func TestPiece(t *testing.T) {
	w, n := rigged(t, ordinary())
	spans := []api.Span{{From: 0, To: 10}, {From: 0, To: 20}, {From: 3, To: 5}, {From: 4, To: 5}, {From: 7, To: 7},
		{From: 9, To: 3}, {}, {From: math.MinInt64, To: math.MaxInt64}, {From: -5, To: 4}, {From: 11, To: most}}
	expectAll := func(code api.Errno) {
		t.Helper()
		facts := w.client[0]
		for _, q := range queries() {
			for _, s := range spans {
				if code != api.OK {
					expectNoPiece(t, n, q, api.Piece{Seg: chunkOf(0), Span: s}, code)
					expectNoPiece(t, n, q, api.Piece{Seg: chunkOf(10), Span: s}, code)
					continue
				}
				expectPiece(t, n, q, api.Piece{Seg: chunkOf(0), Span: s}, []api.Fact{facts[0], facts[2], facts[3]})
				expectPiece(t, n, q, api.Piece{Seg: chunkOf(10), Span: s}, []api.Fact{facts[1]})
			}
		}
	}
	expectAll(api.ErrNone)
	w.take(n, 3, 12, 3, 9)
	expectAll(api.ErrNone)
	n.Seal()
	expectAll(api.ErrNone)
	n.Tick(1, nil, w)
	expectAll(api.ErrNone)
	n.Tick(2, w, w)
	expectAll(api.OK)
	// Facts that come behind it aren't of it.
	w.take(n, 4)
	expectAll(api.OK)
	for _, none := range []api.Seg{
		{}, {Span: api.Span{To: 10}}, {Span: api.Span{To: 10}, Version: 2}, {Span: api.Span{To: 10}, Version: 1, Part: 1},
		{Span: api.Span{To: 10}, Version: 1, Core: 1}, {Span: api.Span{To: 9}, Version: 1}, chunkOf(20),
	} {
		expectNoPiece(t, n, all(), api.Piece{Seg: none, Span: api.Span{To: 10}}, api.ErrNone)
	}
	n.Handle(have21(chunkOf(0), chunkOf(10)))
	expectAll(api.OK)
	n.Tick(3, w, w)
	expectAll(api.ErrNone)
}

// TestOthers: P19.6, messages of other kinds are answered by nothing, and change nothing.
func TestOthers(t *testing.T) {
	w, n := rigged(t, ordinary())
	w.sealed(n, 1, 3)
	w.take(n, 5)
	facts := w.client[0]
	for _, kind := range []int{math.MinInt, -1, 0, api.MsgTake, api.MsgPart, api.MsgOrder, api.MsgHave, api.MsgHave + 1, math.MaxInt} {
		for _, from := range []int{api.Client, api.Realtime, api.Realtime + 1, api.Leader, api.Broker, math.MinInt, -1, math.MaxInt} {
			m := asked(kind, all(), 3, api.Piece{Seg: chunkOf(0)})
			m.From, m.Order = from, api.Order{Drop: true, Seg: chunkOf(0), Node: n.number()}
			expectMsgs(t, n.Handle(m))
		}
	}
	expectMsgs(t, n.Tick(2, w, w))
	expectSegs(t, n.Served(), chunkOf(0))
	expectWaiting(t, n, 2)
	expectTail(t, n, all(), 0, facts, 2)
}
