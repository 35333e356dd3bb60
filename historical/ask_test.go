package historical

import (
	"math"
	"testing"

	"gristmill/api"
)

// queries are of several grouping sets, filters, spans and aggregators.
func queries() []api.Query {
	each := api.Query{
		Span: api.Span{From: 2, To: 8}, Filter: api.Filter{Kind: api.FilterIs, Texts: []string{"a", "c"}}, Grain: 4,
		Sets: [][]int{{}, {0}, {}}, Groups: 1, Rows: 1,
		Aggs: []api.Agg{{Kind: api.AggCount}, {Kind: api.AggSum}, {Kind: api.AggMin}, {Kind: api.AggMax}, {Kind: api.AggDistinct}},
	}
	none := all()
	none.Filter = api.Filter{Kind: api.FilterNot, Kids: []api.Filter{none.Filter}}
	plain := all()
	plain.Aggs = nil
	empty := all()
	empty.Span = api.Span{From: 4, To: 4}
	meas := all()
	meas.Filter = api.Filter{Kind: api.FilterOr, Kids: []api.Filter{
		{Kind: api.FilterMeas, Lo: math.MinInt64, Hi: 1010},
		{Kind: api.FilterAnd, Kids: []api.Filter{{Kind: api.FilterBegin, Texts: []string{""}}, {Kind: api.FilterMeas, Lo: 1040, Hi: math.MaxInt64}}},
	}}
	return []api.Query{all(), each, none, plain, empty, meas}
}

// wrongQueries may not be.
func wrongQueries() []api.Query {
	var l []api.Query
	for _, change := range []func(q *api.Query){
		func(q *api.Query) { *q = api.Query{} },
		func(q *api.Query) { q.Sets = nil },
		func(q *api.Query) { q.Sets = [][]int{{1}} },
		func(q *api.Query) { q.Sets = [][]int{{0, 0}} },
		func(q *api.Query) { q.Span = api.Span{From: 5, To: 4} },
		func(q *api.Query) { q.Span = api.Span{From: -1, To: 4} },
		func(q *api.Query) { q.Span.To = most + 1 },
		func(q *api.Query) { q.Filter = api.Filter{} },
		func(q *api.Query) { q.Filter = api.Filter{Kind: api.FilterIs, Dim: 1, Texts: []string{"a"}} },
		func(q *api.Query) { q.Grain = -1 },
		func(q *api.Query) { q.Aggs = []api.Agg{{Kind: api.AggSum, Col: 1}} },
		func(q *api.Query) { q.Groups = 0 },
		func(q *api.Query) { q.Groups = 10001 },
		func(q *api.Query) { q.Rows = -1 },
	} {
		q := all()
		change(&q)
		l = append(l, q)
	}
	return l
}

// TestAsk: P20.3, the groups of a segment within a piece's span: all of it, a part, none of it, more than it.
func TestAsk(t *testing.T) {
	segs := []api.Seg{chunkOf(0), chunkOf(10), seg(0, 10, 2, 0, 1), seg(0, 10, 2, 3, 1)}
	w, d, n := serving(t, segs...)
	for range 2 {
		for _, s := range segs {
			for _, q := range queries() {
				for _, span := range []api.Span{
					s.Span, {To: most}, {From: math.MinInt64, To: math.MaxInt64}, {From: 2, To: 5}, {From: 3, To: 4}, {From: 4, To: 13},
					{From: 8, To: 9}, {From: 9, To: 10}, {From: 4, To: 4}, {}, {From: 7, To: 2}, {From: 30, To: 40}, {From: -5, To: 3},
				} {
					expectPiece(t, n, q, api.Piece{Seg: s, Span: span}, w.facts[s])
				}
			}
		}
		n = w.node(d)
	}
}

// TestAskNone: P20.3, ErrNone of what isn't served: it was never ordered, it waits, it was dropped, it is another one.
func TestAskNone(t *testing.T) {
	w, _, n := serving(t, seg(0, 10, 1, 0, 1), chunkOf(10))
	w.publish(chunkOf(20), chunkOf(30))
	expectNoPiece(t, n, all(), whole(chunkOf(20)), api.ErrNone)
	tell(t, n, toLoad(1, chunkOf(20)))
	expectNoPiece(t, n, all(), whole(chunkOf(20)), api.ErrNone)
	n.Tick(2, nil, w)
	n.Tick(3, w, nil)
	expectNoPiece(t, n, all(), whole(chunkOf(20)), api.ErrNone)
	n.Tick(4, w, w)
	expectPiece(t, n, all(), whole(chunkOf(20)), w.facts[chunkOf(20)])
	tell(t, n, toDrop(1, chunkOf(20)))
	expectPiece(t, n, all(), whole(chunkOf(20)), w.facts[chunkOf(20)])
	n.Tick(5, w, w)
	expectNoPiece(t, n, all(), whole(chunkOf(20)), api.ErrNone)
	for _, s := range []api.Seg{
		{}, seg(0, 9, 1, 0, 1), seg(1, 10, 1, 0, 1), seg(0, 10, 0, 0, 1), seg(0, 10, 2, 0, 1), seg(0, 10, 1, 1, 1),
		seg(0, 10, 1, 0, 0), seg(0, 10, 1, 0, 2), chunkOf(30), seg(0, 20, 1, 0, 1), seg(10, 20, 1, 0, 1), seg(-1, -1, -1, -1, -1),
	} {
		expectNoPiece(t, n, all(), api.Piece{Seg: s, Span: api.Span{To: 10}}, api.ErrNone)
	}
	w.expectJust(n, seg(0, 10, 1, 0, 1), chunkOf(10))
}

// TestAskWrong: P20.3, ErrQuery of a query that may not be, whether the segment is served or not.
func TestAskWrong(t *testing.T) {
	_, _, n := serving(t, chunkOf(0))
	for _, q := range wrongQueries() {
		expectNoPiece(t, n, q, whole(chunkOf(0)), api.ErrQuery)
		expectNoPiece(t, n, q, whole(chunkOf(10)), api.ErrQuery)
		expectNoPiece(t, n, q, api.Piece{}, api.ErrQuery)
	}
}

// TestAsker: P20.3, the answer goes to who asks, from the node, with the Ask.
func TestAsker(t *testing.T) {
	w, d, _ := serving(t, chunkOf(0))
	for id := api.Store; id < api.Store+3; id++ {
		n, code := New(id, w.setup, d)
		expectCode(t, code, api.OK)
		for _, from := range []int{api.Broker, api.Client, id, -7, math.MaxInt} {
			for _, ask := range []uint64{0, 1, 1<<64 - 1} {
				for s, code := range map[api.Seg]api.Errno{chunkOf(0): api.OK, chunkOf(10): api.ErrNone} {
					m := asked(all(), whole(s))
					m.From, m.Ask = from, ask
					l := n.Handle(m)
					if len(l) != 1 || (len(l[0].Groups) > 0) != (code == api.OK) {
						t.Fatal(l)
					}
					expectMsgs(t, l, api.Msg{Kind: api.MsgPart, From: id, To: from, Ask: ask, Code: code, Groups: l[0].Groups})
				}
			}
		}
	}
}

// TestAskOften: P20.3, asking changes nothing: the same is told again, and nothing more at the next tick.
func TestAskOften(t *testing.T) {
	w, _, n := serving(t, chunkOf(0))
	for range 20 {
		expectPiece(t, n, all(), whole(chunkOf(0)), w.facts[chunkOf(0)])
		expectNoPiece(t, n, all(), whole(chunkOf(10)), api.ErrNone)
	}
	expectMsgs(t, n.Tick(2, w, w))
	expectTerm(t, n, 1)
	expectWaiting(t, n, 0)
}
