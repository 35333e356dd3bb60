package coordinator

import (
	"math"
	"reflect"
	"testing"

	"gristmill/api"
)

// expectTxns: just these transactions were asked for since they were asked last.
func (w *world) expectTxns(want ...api.Txn) {
	w.t.Helper()
	if len(w.txns) != len(want) || len(want) > 0 && !reflect.DeepEqual(w.txns, want) {
		w.t.Fatalf("asked %+v, not %+v", w.txns, want)
	}
	w.txns = nil
}

// TestDropNothing: P21.2, P21.5, without metas, and with nothing overshadowed, no transaction is asked for.
func TestDropNothing(t *testing.T) {
	for name, there := range map[string][]api.Seg{
		"no metas":             nil,
		"one":                  {chunkOf(0)},
		"side by side":         {chunkOf(0), chunkOf(10), chunkOf(30)},
		"covered in part":      {seg(0, 30, 1, 0, 0), seg(0, 10, 2, 0, 1), seg(20, 30, 2, 0, 1)},
		"by an incomplete set": {chunkOf(0), seg(0, 10, 2, 1, 2)},
		"parts on top":         {seg(0, 10, 1, 0, 1), seg(0, 10, 1, 1, 1), seg(0, 10, 1, 9, 1)},
		"incomplete alone":     {seg(0, 10, 2, 1, 2)},
		"a lower version":      {seg(0, 30, 2, 0, 0), seg(20, 40, 1, 0, 0)},
	} {
		w, n := rigged(t, ordinary())
		w.publish(there...)
		facts := w.facts()
		for now := range 3 {
			w.expectTick(n, now)
			t.Log(name)
			w.expectCalls("State", "List")
			w.expectTxns()
		}
		w.expectSegs(there...)
		w.expectFacts(facts)
	}
}

// TestDrop: P21.2, P21.5, what is covered goes by one transaction with the node's Term; the facts are what they were.
func TestDrop(t *testing.T) {
	for name, c := range map[string]struct{ stays, goes []api.Seg }{
		"one":               {[]api.Seg{seg(0, 10, 2, 0, 1)}, []api.Seg{chunkOf(0)}},
		"several":           {[]api.Seg{seg(0, 30, 2, 0, 1), chunkOf(30)}, []api.Seg{chunkOf(0), chunkOf(10), chunkOf(20)}},
		"a set of parts":    {[]api.Seg{seg(0, 20, 2, 0, 0)}, []api.Seg{seg(5, 10, 1, 0, 2), seg(5, 10, 1, 1, 2), seg(5, 10, 1, 7, 2)}},
		"an incomplete one": {[]api.Seg{seg(0, 20, 2, 0, 0)}, []api.Seg{seg(5, 10, 1, 1, 2)}},
		"by several":        {[]api.Seg{seg(0, 10, 2, 0, 1), seg(10, 20, 3, 0, 1)}, []api.Seg{seg(5, 15, 1, 0, 0)}},
		"of one version":    {[]api.Seg{seg(0, 10, 2, 0, 0), seg(5, 10, 2, 0, 0)}, nil},
		"behind each other": {[]api.Seg{seg(0, 10, 4, 0, 1)}, []api.Seg{seg(0, 10, 1, 0, 0), seg(0, 10, 2, 0, 1), seg(0, 10, 3, 0, 1)}},
		"beside an incomplete one": {
			[]api.Seg{seg(0, 10, 2, 0, 1), seg(0, 10, 3, 0, 2)}, []api.Seg{chunkOf(0)},
		},
	} {
		w, n := rigged(t, ordinary())
		expectCode(t, n.Elect(w), api.OK)
		w.publish(c.stays...)
		w.publish(c.goes...)
		w.publish(chunkOf(50))
		stays := append([]api.Seg{chunkOf(50)}, c.stays...)
		tell(n, have(22, 1, append(c.goes, stays...)...))
		facts, epoch := w.facts(), w.log.State().Epoch
		w.calls = nil
		t.Log(name)
		var drops []api.Order
		for _, s := range c.goes {
			drops = append(drops, drop(s, 22))
		}
		for _, s := range c.stays {
			if s.Core == 2 {
				drops = append(drops, drop(s, 22))
			}
		}
		w.expectTick(n, 1, drops...)
		if len(c.goes) == 0 {
			w.expectTxns()
			continue
		}
		w.expectCalls("State", "Do", "List")
		w.expectTxns(api.Txn{Epoch: epoch, Term: 2, Drop: c.goes})
		w.expectSegs(stays...)
		w.expectFacts(facts)
		w.expectTick(n, 2)
		w.expectCalls("State", "List")
		w.expectTxns()
		w.expectSegs(stays...)
	}
}

// TestDropRefused: P21.2, a transaction that is refused, or of which nothing is known: nothing more is done at that tick.
func TestDropRefused(t *testing.T) {
	fates := []fault{unheard, {panics: true}, {code: api.ErrTerm}, {code: api.ErrTwice}, {code: api.ErrMove}}
	for _, code := range codes() {
		fates = append(fates, fault{code: code})
	}
	for _, f := range fates {
		w, n := rigged(t, ordinary())
		w.publish(chunkOf(0), seg(0, 10, 2, 0, 1), chunkOf(20))
		w.put("loose")
		tell(n, have(22, 1, chunkOf(40)))
		// The loose one would go at the tick 5.
		w.retract(chunkOf(0))
		w.expectTick(n, 1, drop(chunkOf(40), 22), load(seg(0, 10, 2, 0, 1), 22), load(chunkOf(20), 22))
		w.publish(seg(20, 30, 2, 0, 1))
		w.calls = nil
		facts := w.facts()
		w.fate = failing("Do", f)
		tell(n, have(22, 5))
		w.expectTick(n, 5)
		w.expectCalls("State", "Do")
		w.fate = nil
		w.expectFacts(facts)
		w.expectBlobs("loose", nameOf(chunkOf(0)), nameOf(chunkOf(20)), nameOf(seg(0, 10, 2, 0, 1)), nameOf(seg(20, 30, 2, 0, 1)))
		switch {
		case f.code == api.ErrTerm:
			expectTerm(t, n, 0)
			w.expectTick(n, 6)
			w.expectCalls()
			continue
		case f.unheard:
			w.expectSegs(seg(0, 10, 2, 0, 1), seg(20, 30, 2, 0, 1))
		default:
			w.expectSegs(seg(0, 10, 2, 0, 1), chunkOf(20), seg(20, 30, 2, 0, 1))
		}
		expectTerm(t, n, 1)
		w.expectTick(n, 6, load(seg(0, 10, 2, 0, 1), 22), load(seg(20, 30, 2, 0, 1), 22))
		w.expectSegs(seg(0, 10, 2, 0, 1), seg(20, 30, 2, 0, 1))
		w.expectFacts(facts)
	}
}

// TestDropBehindOthers: P21.2, P21.5, an epoch that went by in between, another leader in between: refused, and nothing is lost.
func TestDropBehindOthers(t *testing.T) {
	w, n := rigged(t, ordinary())
	other := w.node(api.Leader + 1)
	w.publish(chunkOf(0), seg(0, 10, 2, 0, 1))
	tell(n, have(22, 1))
	w.ahead = func() {
		w.ahead = nil
		w.retract(seg(0, 10, 2, 0, 1))
	}
	w.expectTick(n, 1)
	w.expectCalls("State", "Do")
	w.expectSegs(chunkOf(0))
	expectTerm(t, n, 1)
	w.expectTick(n, 2, load(chunkOf(0), 22))
	w.publish(seg(0, 10, 3, 0, 1))
	w.ahead = func() {
		w.ahead = nil
		expectCode(t, other.Elect(w), api.OK)
	}
	w.expectTick(n, 3)
	expectTerm(t, n, 0)
	w.expectSegs(chunkOf(0), seg(0, 10, 3, 0, 1))
	w.expectTick(other, 3)
	w.expectSegs(seg(0, 10, 3, 0, 1))
}

// TestDropMany: P21.2, as many as there may be, in one transaction.
func TestDropMany(t *testing.T) {
	w, n := rigged(t, ordinary())
	var add []api.Meta
	for at := range int64(api.MaxMetas - 1) {
		add = append(add, published(seg(at, at+1, 1, 0, 0), []byte("bytes"), 1))
	}
	w.do(api.Txn{Add: append(add, published(seg(0, 999, 2, 0, 0), []byte("bytes"), 1))})
	tell(n, have(22, 1))
	w.expectTick(n, 1, load(seg(0, 999, 2, 0, 0), 22))
	w.expectSegs(seg(0, 999, 2, 0, 0))
	w.expectCalls("State", "Do", "List")
}

// TestStrangeStates: rule 1, states that no metadata has.
func TestStrangeStates(t *testing.T) {
	for name, segs := range map[string][]api.Seg{
		"segments that may not be": {seg(5, 5, 1, 0, 0), seg(-5, 5, 1, 0, 0), seg(0, most+1, 1, 0, 0), seg(0, 5, -1, 0, 0), seg(0, 5, 1, -1, -1)},
		"twice":                    {chunkOf(0), chunkOf(0), chunkOf(0)},
		"another core":             {chunkOf(0), seg(0, 10, 1, 1, 5), seg(0, 10, 1, 0, 5)},
		"the greatest numbers":     {seg(math.MinInt64, math.MaxInt64, math.MaxInt, math.MaxInt, math.MaxInt), seg(0, most, math.MaxInt, math.MaxInt, 0)},
		"the least numbers":        {seg(math.MaxInt64, math.MinInt64, math.MinInt, math.MinInt, math.MinInt)},
	} {
		w, n := rigged(t, ordinary())
		tell(n, have(22, 1))
		told := &retold{w, func(s *api.State) {
			s.Epoch = math.MinInt
			for _, one := range segs {
				s.Metas = append(s.Metas, published(one, nil, -1))
			}
		}}
		for now := range 9 {
			n.Tick(now, told, w)
			for _, s := range []api.Span{span(0, 10), span(math.MinInt64, math.MaxInt64), span(0, most), span(3, 3)} {
				if n.Compact(s, told, w) == api.OK || n.Wipe(s, told, w) == api.OK {
					t.Error(name, s)
				}
			}
		}
	}
}
