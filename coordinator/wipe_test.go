package coordinator

import (
	"math"
	"slices"
	"testing"

	"gristmill/api"
)

// TestWipe: P21.4, P21.5, what is published, and that just the facts within the span are gone.
func TestWipe(t *testing.T) {
	three := []api.Seg{chunkOf(0), chunkOf(10), chunkOf(20)}
	wide := []api.Seg{seg(0, 30, 1, 0, 1), seg(10, 20, 2, 0, 1)}
	for name, c := range map[string]struct {
		there []api.Seg
		s     api.Span
		want  []api.Seg
	}{
		"no metas":                 {nil, span(0, 10), nil},
		"no metas, all times":      {nil, span(0, most), nil},
		"no set":                   {three, span(30, 60), nil},
		"a moment of no set":       {three, span(30, 31), nil},
		"an incomplete set":        {[]api.Seg{seg(0, 10, 1, 0, 2)}, span(0, 10), nil},
		"a part at first":          {three, span(0, 1), []api.Seg{seg(0, 10, 2, 0, 1)}},
		"a part in the middle":     {three, span(13, 17), []api.Seg{seg(10, 20, 2, 0, 1)}},
		"a part at the end":        {three, span(29, 30), []api.Seg{seg(20, 30, 2, 0, 1)}},
		"a moment without a fact":  {three, span(11, 12), []api.Seg{seg(10, 20, 2, 0, 1)}},
		"all of one":               {three, span(10, 20), []api.Seg{seg(10, 20, 2, 0, 1)}},
		"parts of two":             {three, span(9, 11), []api.Seg{seg(0, 10, 2, 0, 1), seg(10, 20, 2, 0, 1)}},
		"all of several":           {three, span(0, 30), []api.Seg{seg(0, 10, 2, 0, 1), seg(10, 20, 2, 0, 1), seg(20, 30, 2, 0, 1)}},
		"all times":                {three, span(0, most), []api.Seg{seg(0, 10, 2, 0, 1), seg(10, 20, 2, 0, 1), seg(20, 30, 2, 0, 1)}},
		"with a gap":               {[]api.Seg{chunkOf(0), chunkOf(20)}, span(5, 25), []api.Seg{seg(0, 10, 2, 0, 1), seg(20, 30, 2, 0, 1)}},
		"parts of one set":         {[]api.Seg{seg(0, 10, 3, 0, 2), seg(0, 10, 3, 1, 2), seg(0, 10, 3, 4, 2)}, span(3, 4), []api.Seg{seg(0, 10, 4, 0, 1)}},
		"beside one that stays":    {wide, span(0, 5), []api.Seg{seg(0, 30, 3, 0, 1)}},
		"behind one that stays":    {wide, span(20, 25), []api.Seg{seg(0, 30, 3, 0, 1)}},
		"one within another":       {wide, span(12, 14), []api.Seg{seg(10, 20, 3, 0, 1)}},
		"both":                     {wide, span(8, 14), []api.Seg{seg(0, 30, 3, 0, 1), seg(10, 20, 3, 0, 1)}},
		"on both sides":            {wide, span(8, 22), []api.Seg{seg(0, 30, 3, 0, 1), seg(10, 20, 3, 0, 1)}},
		"covered in part":          {[]api.Seg{seg(0, 30, 1, 0, 0), seg(0, 10, 2, 0, 0)}, span(0, 10), []api.Seg{seg(0, 10, 3, 0, 1)}},
		"overlapping":              {[]api.Seg{seg(0, 15, 1, 0, 1), seg(10, 25, 4, 0, 1), seg(20, 35, 2, 0, 1)}, span(0, 40), []api.Seg{seg(0, 15, 5, 0, 1), seg(10, 25, 5, 0, 1), seg(20, 35, 5, 0, 1)}},
		"overlapping, the last":    {[]api.Seg{seg(0, 15, 1, 0, 1), seg(10, 25, 4, 0, 1), seg(20, 35, 2, 0, 1)}, span(25, 26), []api.Seg{seg(20, 35, 5, 0, 1)}},
		"a great one that is half": {[]api.Seg{chunkOf(0), seg(5, 15, 9, 0, 2)}, span(0, 1), []api.Seg{seg(0, 10, 10, 0, 1)}},
		"a great one beside":       {[]api.Seg{chunkOf(0), seg(10, 15, 9, 0, 0)}, span(0, 1), []api.Seg{seg(0, 10, 2, 0, 1)}},
		"of one version":           {[]api.Seg{seg(0, 20, 1, 0, 0), seg(0, 10, 1, 0, 0), seg(5, 9, 1, 0, 0)}, span(0, 20), []api.Seg{seg(0, 20, 2, 0, 1), seg(0, 10, 2, 0, 1), seg(5, 9, 2, 0, 1)}},
	} {
		w, n := rigged(t, ordinary())
		w.publish(c.there...)
		facts, epoch := w.facts(), w.log.State().Epoch
		t.Log(name)
		expectCode(t, n.Wipe(c.s, w, w), api.OK)
		expectTerm(t, n, 1)
		w.expectSegs(append(c.there, c.want...)...)
		w.expectFacts(facts, c.s)
		w.expectWiped(api.Txn{Epoch: epoch, Term: 1, Add: w.newMetas(c.there), Wipe: c.s})
		for _, m := range w.newMetas(c.there) {
			w.contents(m)
		}
		w.expectTick(n, 1)
		w.expectFacts(facts, c.s)
		if c.want == nil {
			continue
		}
		// A span that was wiped can be wiped again.
		expectCode(t, n.Wipe(c.s, w, w), api.OK)
		w.expectFacts(facts, c.s)
	}
}

// expectWiped: just this transaction was asked for, in whatever order its metas stand.
func (w *world) expectWiped(want api.Txn) {
	w.t.Helper()
	for at := range w.txns {
		slices.SortFunc(w.txns[at].Add, func(a, b api.Meta) int { return slices.Index(w.segs(), a.Seg) - slices.Index(w.segs(), b.Seg) })
		if len(w.txns[at].Add) == 0 && len(want.Add) == 0 {
			w.txns[at].Add = want.Add
		}
	}
	w.expectTxns(want)
}

// TestWipeSpans: P21.4, ErrArg of a span that is empty, or not within 0 to MaxTime, behind what goes ahead of it.
func TestWipeSpans(t *testing.T) {
	last := seg(most-10, most, 1, 0, 0)
	for _, c := range []struct {
		s    api.Span
		code api.Errno
	}{
		{span(0, 0), api.ErrArg}, {span(5, 5), api.ErrArg}, {span(5, 4), api.ErrArg}, {span(most, most), api.ErrArg},
		{span(-1, 5), api.ErrArg}, {span(-1, 0), api.ErrArg}, {span(-9, -5), api.ErrArg}, {span(-1, most), api.ErrArg},
		{span(0, most+1), api.ErrArg}, {span(5, most+1), api.ErrArg}, {span(most, most+1), api.ErrArg},
		{span(most+5, most+9), api.ErrArg}, {span(-1, most+1), api.ErrArg},
		{span(math.MinInt64, math.MaxInt64), api.ErrArg}, {span(math.MaxInt64, math.MinInt64), api.ErrArg}, {span(-5, -5), api.ErrArg},
		{span(0, 1), api.OK}, {span(0, most), api.OK}, {span(most-1, most), api.OK}, {span(1, most-1), api.OK},
	} {
		w := newWorld(t, ordinary())
		w.publish(chunkOf(0), last)
		n := w.node(api.Leader)
		facts := w.facts()
		for _, elected := range []bool{false, true} {
			if elected {
				expectCode(t, n.Elect(w), api.OK)
			}
			w.calls = nil
			expectCode(t, n.Wipe(c.s, nil, w), api.ErrArg)
			expectCode(t, n.Wipe(c.s, w, nil), api.ErrArg)
			expectCode(t, n.Wipe(c.s, nil, nil), api.ErrArg)
			w.expectCalls()
			if !elected {
				expectCode(t, n.Wipe(c.s, w, w), api.ErrTerm)
				w.expectCalls()
			}
		}
		w.fate = failing("State", fault{code: api.Errno(77)})
		expectCode(t, n.Wipe(c.s, w, w), api.Errno(77))
		w.fate = nil
		expectTerm(t, n, 1)
		t.Log(c.s)
		expectCode(t, n.Wipe(c.s, w, w), c.code)
		expectTerm(t, n, 1)
		if c.code == api.OK {
			w.expectFacts(facts, c.s)
		} else {
			w.expectTxns()
			w.expectSegs(chunkOf(0), last)
		}
		expectCode(t, w.node(42).Elect(w), api.OK)
		expectCode(t, n.Wipe(c.s, w, w), api.ErrTerm)
		expectTerm(t, n, 0)
	}
}

// TestWipeLast: P21.4, the last moments there are.
func TestWipeLast(t *testing.T) {
	w, n := rigged(t, ordinary())
	last := seg(most-10, most, 1, 0, 0)
	w.publish(last)
	facts := w.contents(w.meta(last))
	expectCode(t, n.Wipe(span(most-1, most), w, w), api.OK)
	got := w.contents(w.meta(seg(most-10, most, 2, 0, 1)))
	if facts[len(facts)-1].Fact.Time != most-1 || len(got) != len(facts)-1 || got[len(got)-1].Fact.Time == most-1 {
		t.Fatal(got)
	}
	expectCode(t, n.Wipe(span(0, most), w, w), api.OK)
	if m := w.meta(seg(most-10, most, 3, 0, 1)); m.Rows != 0 || len(w.contents(m)) != 0 {
		t.Fatal(m)
	}
}

// TestWipeTooMany: P21.4, ErrArg, if the facts of a set don't go into one segment; nothing is done then, of no set.
func TestWipeTooMany(t *testing.T) {
	w, n := rigged(t, ordinary())
	one, two := seg(10, 20, 1, 0, 2), seg(10, 20, 1, 1, 2)
	w.publish(chunkOf(0))
	for s, rows := range map[api.Seg]int{one: api.MaxFacts, two: 1} {
		facts := manyFacts(s, rows, 1)
		for at := range facts {
			facts[at].Fact.Time = 15
		}
		w.publishAs(s, facts)
	}
	facts, blobs := w.facts(), w.store.List()
	for _, s := range []api.Span{span(11, 12), span(5, 12), span(10, 15), span(16, 40)} {
		expectCode(t, n.Wipe(s, w, w), api.ErrArg)
		w.expectTxns()
		w.expectSegs(chunkOf(0), one, two)
		w.expectBlobs(blobs...)
		w.expectFacts(facts)
		expectTerm(t, n, 1)
	}
	expectCode(t, n.Wipe(span(15, 16), w, w), api.OK)
	w.expectSegs(chunkOf(0), one, two, seg(10, 20, 2, 0, 1))
	w.expectFacts(facts, span(15, 16))
}

// TestWipeAway: P21.4, P21.5, the errors of both, at whatever call: nothing goes, or all that was to go.
func TestWipeAway(t *testing.T) {
	fates := []fault{lost, unheard, {panics: true}}
	for _, code := range codes() {
		fates = append(fates, fault{code: code})
	}
	for _, f := range fates {
		for _, call := range []string{"State", "Get ", "Put ", "Do"} {
			for nth := 1; nth <= 3; nth++ {
				if nth > 1 && call != "Get " && call != "Put " {
					continue
				}
				w, n := rigged(t, ordinary())
				there := []api.Seg{chunkOf(0), chunkOf(10), chunkOf(20)}
				w.publish(there...)
				facts, count := w.facts(), 0
				w.fate = func(name string) fault {
					if name == call {
						count++
					}
					if name == call && count == nth {
						return f
					}
					return fault{}
				}
				want := f.code
				if f.panics {
					want = api.ErrPower
				}
				expectCode(t, n.Wipe(span(5, 25), w, w), want)
				expectTerm(t, n, 1)
				w.fate = nil
				if done := call == "Do" && f.unheard; done {
					w.expectFacts(facts, span(5, 25))
					continue
				}
				w.expectSegs(there...)
				w.expectFacts(facts)
				expectCode(t, n.Wipe(span(5, 25), w, w), api.OK)
				w.expectSegs(append(there, seg(0, 10, 2, 0, 1), seg(10, 20, 2, 0, 1), seg(20, 30, 2, 0, 1))...)
				w.expectFacts(facts, span(5, 25))
			}
		}
	}
}

// TestWipeAtOneEpoch: P21.4, P21.5, a wipe of another span behind one that wasn't done: its blobs are its own.
func TestWipeAtOneEpoch(t *testing.T) {
	w, n := rigged(t, ordinary())
	w.publish(chunkOf(0))
	facts := w.facts()
	w.fate = failing("Do", lost)
	for from := range int64(10) {
		expectCode(t, n.Wipe(span(from, from+1), w, w), api.ErrPower)
	}
	w.expectFacts(facts)
	w.fate = nil
	expectCode(t, n.Wipe(span(3, 4), w, w), api.OK)
	w.expectFacts(facts, span(3, 4))
}

// TestWipePuts: P21.4, each blob lies in deep storage ahead of the transaction.
func TestWipePuts(t *testing.T) {
	w, n := rigged(t, ordinary())
	w.publish(chunkOf(0), chunkOf(10))
	w.calls = nil
	w.ahead = func() {
		if len(w.store.List()) != 4 {
			t.Fatal(w.store.List())
		}
	}
	expectCode(t, n.Wipe(span(5, 15), w, w), api.OK)
	if len(w.calls) != 6 || w.calls[0] != "State" || w.calls[5] != "Do" {
		t.Fatal(w.calls)
	}
}
