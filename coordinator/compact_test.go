package coordinator

import (
	"fmt"
	"math"
	"slices"
	"testing"

	"gristmill/api"
	"gristmill/segment"
	"gristmill/wire"
)

// newMetas are those that came since there were only some segments.
func (w *world) newMetas(before []api.Seg) []api.Meta {
	return slices.DeleteFunc(w.log.State().Metas, func(m api.Meta) bool { return slices.Contains(before, m.Seg) })
}

// TestCompact: P21.3, P21.5, what becomes of sets, and that the facts are what they were.
func TestCompact(t *testing.T) {
	none := api.Seg{}
	three := []api.Seg{chunkOf(0), chunkOf(10), chunkOf(20)}
	for name, c := range map[string]struct {
		there []api.Seg
		s     api.Span
		code  api.Errno
		want  api.Seg
	}{
		"an empty span":             {three, span(10, 10), api.ErrNone, none},
		"a span turned round":       {three, span(30, 0), api.ErrNone, none},
		"no metas":                  {nil, span(0, 60), api.ErrNone, none},
		"no sets":                   {three, span(30, 60), api.ErrNone, none},
		"no sets, below 0":          {three, span(-60, 0), api.ErrNone, none},
		"one segment":               {three, span(0, 10), api.ErrNone, none},
		"one segment, more span":    {three, span(-5, 19), api.ErrNone, none},
		"an incomplete set":         {[]api.Seg{seg(0, 10, 1, 1, 3), seg(0, 10, 1, 2, 3)}, span(0, 60), api.ErrNone, none},
		"two":                       {three, span(0, 20), api.OK, seg(0, 20, 2, 0, 1)},
		"two behind one":            {three, span(10, 30), api.OK, seg(10, 30, 2, 0, 1)},
		"three":                     {three, span(0, 30), api.OK, seg(0, 30, 2, 0, 1)},
		"all there is":              {three, span(math.MinInt64, math.MaxInt64), api.OK, seg(0, 30, 2, 0, 1)},
		"partly within at the end":  {three, span(0, 29), api.OK, seg(0, 20, 2, 0, 1)},
		"partly within at first":    {three, span(1, 30), api.OK, seg(10, 30, 2, 0, 1)},
		"partly within on both":     {three, span(1, 29), api.ErrNone, none},
		"all partly within":         {three[:2], span(1, 19), api.ErrNone, none},
		"a gap":                     {[]api.Seg{chunkOf(0), chunkOf(20)}, span(0, 30), api.ErrArg, none},
		"a gap of a moment":         {[]api.Seg{chunkOf(0), seg(11, 20, 1, 0, 0)}, span(0, 30), api.ErrArg, none},
		"a gap, and two of them":    {[]api.Seg{chunkOf(0), chunkOf(10), chunkOf(40)}, span(0, 60), api.ErrArg, none},
		"a gap beyond the span":     {[]api.Seg{chunkOf(0), chunkOf(10), chunkOf(40)}, span(0, 49), api.OK, seg(0, 20, 2, 0, 1)},
		"parts of one set":          {[]api.Seg{seg(0, 10, 1, 0, 2), seg(0, 10, 1, 1, 2)}, span(0, 10), api.OK, seg(0, 10, 2, 0, 1)},
		"parts of one without core": {[]api.Seg{seg(0, 10, 1, 3, 0), seg(0, 10, 1, 8, 0)}, span(0, 10), api.OK, seg(0, 10, 2, 0, 1)},
		"a part on top":             {[]api.Seg{seg(0, 10, 4, 0, 1), seg(0, 10, 4, 1, 1)}, span(0, 10), api.OK, seg(0, 10, 5, 0, 1)},
		"of several versions":       {[]api.Seg{chunkOf(0), seg(10, 20, 7, 0, 1), seg(20, 30, 3, 0, 1)}, span(0, 30), api.OK, seg(0, 30, 8, 0, 1)},
		"version 0":                 {[]api.Seg{seg(0, 10, 0, 0, 0), seg(10, 20, 0, 0, 0)}, span(0, 30), api.OK, seg(0, 20, 1, 0, 1)},
		"a wider one in the way":    {[]api.Seg{seg(0, 60, 5, 0, 1), chunkOf(10), chunkOf(20)}, span(10, 30), api.ErrNone, none},
		"a wider one below":         {[]api.Seg{seg(0, 60, 1, 0, 1), seg(10, 20, 2, 0, 1), seg(20, 30, 2, 0, 1)}, span(10, 30), api.OK, seg(10, 30, 3, 0, 1)},
		"a wider one in a gap":      {[]api.Seg{seg(0, 60, 1, 0, 1), seg(10, 20, 2, 0, 1), seg(30, 40, 2, 0, 1)}, span(10, 40), api.ErrArg, none},
		"a wider one within":        {[]api.Seg{seg(0, 30, 1, 0, 1), seg(10, 20, 2, 0, 1)}, span(0, 30), api.OK, seg(0, 30, 3, 0, 1)},
		"a wider one, one shown":    {[]api.Seg{seg(0, 30, 1, 0, 1), seg(10, 20, 2, 0, 1)}, span(5, 30), api.ErrNone, none},
		"overlapping":               {[]api.Seg{seg(0, 15, 1, 0, 1), seg(10, 25, 1, 0, 1), seg(20, 35, 4, 0, 1)}, span(0, 40), api.OK, seg(0, 35, 5, 0, 1)},
		"overlapping what isn't within": {
			[]api.Seg{seg(0, 15, 1, 0, 1), seg(10, 25, 1, 0, 1), seg(20, 35, 4, 0, 1)}, span(0, 30), api.OK, seg(0, 25, 5, 0, 1),
		},
		"covered ones": {[]api.Seg{seg(0, 30, 2, 0, 1), chunkOf(0), chunkOf(10)}, span(0, 20), api.ErrNone, none},
		"covered ones of greater versions that aren't whole": {
			[]api.Seg{chunkOf(0), chunkOf(10), seg(0, 10, 6, 1, 2)}, span(0, 20), api.OK, seg(0, 20, 7, 0, 1),
		},
		"one that isn't whole, and meets them": {
			[]api.Seg{chunkOf(0), chunkOf(10), seg(19, 60, 6, 0, 2)}, span(0, 20), api.OK, seg(0, 20, 7, 0, 1),
		},
		"great versions that don't meet them": {
			[]api.Seg{seg(0, 10, 9, 0, 0), chunkOf(10), chunkOf(20), seg(30, 60, 9, 0, 0)}, span(10, 30), api.OK, seg(10, 30, 2, 0, 1),
		},
	} {
		w, n := rigged(t, ordinary())
		w.publish(c.there...)
		facts, before := w.facts(), w.log.State()
		t.Log(name)
		expectCode(t, n.Compact(c.s, w, w), c.code)
		w.expectFacts(facts)
		expectTerm(t, n, 1)
		if c.code != api.OK {
			w.expectCalls("State")
			w.expectSegs(c.there...)
			continue
		}
		w.expectSegs(append(c.there, c.want)...)
		m := w.meta(c.want)
		w.expectTxns(api.Txn{Epoch: before.Epoch, Term: 1, Add: []api.Meta{m}})
		w.contents(m)
		// Put together it is one; what it covers goes, and it can't be put together again.
		w.expectTick(n, 1)
		w.expectFacts(facts)
		expectCode(t, n.Compact(c.want.Span, w, w), api.ErrNone)
		for _, s := range c.there {
			if grainCovers(c.want.Span, s.Span) && slices.Contains(w.segs(), s) {
				t.Fatal(name, s)
			}
		}
	}
}

func grainCovers(a, b api.Span) bool { return a.From <= b.From && b.To <= a.To }

// TestCompactBytes: P21.3, the segment has just the facts of the span, alike ones counted together.
func TestCompactBytes(t *testing.T) {
	w, n := rigged(t, ordinary())
	at := func(time int64, dim string, n uint64) api.Many {
		return api.Many{Fact: api.Fact{Time: time, Dims: []string{dim}, Meas: []int64{-7}}, N: n}
	}
	w.publishAs(seg(0, 10, 1, 0, 0), []api.Many{at(0, "a", 1), at(9, "b", 2), at(12, "beyond", 1)})
	w.publishAs(seg(0, 10, 1, 1, 0), []api.Many{at(0, "", 3), at(0, "a", 5), at(9, "b", 1)})
	w.publishAs(seg(10, 20, 1, 0, 0), []api.Many{at(9, "ahead", 1), at(10, "a", math.MaxUint64), at(19, "z", 1), at(20, "beyond", 1)})
	w.publishAs(seg(20, 30, 1, 0, 0), []api.Many{at(20, "c", 1)})
	want, code := segment.Build(w.setup.Schema, []api.Many{
		at(0, "", 3), at(0, "a", 6), at(9, "b", 3), at(10, "a", math.MaxUint64), at(19, "z", 1),
	})
	expectCode(t, code, api.OK)
	w.calls = nil
	expectCode(t, n.Compact(span(0, 29), w, w), api.OK)
	m := w.meta(seg(0, 20, 2, 0, 1))
	got, code := w.store.Get(m.Blob)
	expectCode(t, code, api.OK)
	if string(got) != string(want) || m.Sum != wire.Sum(want) || m.Rows != 5 {
		t.Fatalf("another segment: %+v", m)
	}
	w.expectCalls(
		"State", "Get "+nameOf(seg(0, 10, 1, 0, 0)), "Get "+nameOf(seg(0, 10, 1, 1, 0)), "Get "+nameOf(seg(10, 20, 1, 0, 0)),
		"Put "+m.Blob, "Do",
	)
}

// TestCompactNothing: P21.3, sets without facts are sets all the same.
func TestCompactNothing(t *testing.T) {
	w, n := rigged(t, ordinary())
	w.publishAs(chunkOf(0), nil)
	w.publishAs(chunkOf(10), nil)
	expectCode(t, n.Compact(span(0, 20), w, w), api.OK)
	if m := w.meta(seg(0, 20, 2, 0, 1)); m.Rows != 0 || len(w.contents(m)) != 0 {
		t.Fatal(m)
	}
}

// TestCompactArgs: P21.3, ErrArg of nil, then ErrTerm, then the book's error, then what is to be said of the sets.
func TestCompactArgs(t *testing.T) {
	for _, s := range []api.Span{span(0, 20), span(5, 5), span(0, 10), span(0, 60)} {
		w := newWorld(t, ordinary())
		n := w.node(api.Leader)
		w.publish(chunkOf(0), chunkOf(10), chunkOf(30))
		for _, elected := range []bool{false, true} {
			if elected {
				expectCode(t, n.Elect(w), api.OK)
			}
			w.calls = nil
			expectCode(t, n.Compact(s, nil, w), api.ErrArg)
			expectCode(t, n.Compact(s, w, nil), api.ErrArg)
			expectCode(t, n.Compact(s, nil, nil), api.ErrArg)
			w.expectCalls()
			if !elected {
				expectCode(t, n.Compact(s, w, w), api.ErrTerm)
				w.expectCalls()
			}
		}
		w.fate = failing("State", fault{code: api.Errno(77)})
		expectCode(t, n.Compact(s, w, w), api.Errno(77))
		expectTerm(t, n, 1)
		w.fate = nil
		expectCode(t, w.node(42).Elect(w), api.OK)
		expectCode(t, n.Compact(s, w, w), api.ErrTerm)
		expectTerm(t, n, 0)
		w.expectSegs(chunkOf(0), chunkOf(10), chunkOf(30))
	}
}

// manyFacts are facts of a segment, as many as that, all unlike, with so many texts.
func manyFacts(s api.Seg, n, texts int) []api.Many {
	var l []api.Many
	for k := range n {
		f := api.Fact{Time: s.Span.From, Dims: []string{fmt.Sprint(s.Part, "-", k%texts)}, Meas: []int64{int64(k)}}
		l = append(l, api.Many{Fact: f, N: 1})
	}
	return l
}

// TestCompactTooMany: P21.3, ErrArg, if the facts don't go into one segment; nothing is done then.
func TestCompactTooMany(t *testing.T) {
	for rows, want := range map[int]api.Errno{1: api.OK, api.MaxFacts / 2: api.OK, api.MaxFacts/2 + 1: api.ErrArg, api.MaxFacts: api.ErrArg} {
		w, n := rigged(t, ordinary())
		w.publishAs(chunkOf(0), manyFacts(chunkOf(0), rows, 1))
		w.publishAs(chunkOf(10), manyFacts(chunkOf(10), api.MaxFacts/2, 1))
		epoch, blobs := w.log.State().Epoch, w.store.List()
		expectCode(t, n.Compact(span(0, 20), w, w), want)
		if want == api.OK {
			if m := w.meta(seg(0, 20, 2, 0, 1)); m.Rows != rows+api.MaxFacts/2 {
				t.Fatal(m)
			}
			continue
		}
		if w.log.State().Epoch != epoch || !slices.Equal(w.store.List(), blobs) {
			t.Fatal("something was done")
		}
		w.expectCalls("State", "Get "+nameOf(chunkOf(0)), "Get "+nameOf(chunkOf(10)))
	}
}

// TestCompactTooLong: P21.3, likewise, if their bytes don't.
func TestCompactTooLong(t *testing.T) {
	for texts, want := range map[int]api.Errno{1000: api.OK, 2048: api.ErrArg} {
		w, n := rigged(t, ordinary())
		one, two := seg(0, 10, 1, 0, 2), seg(0, 10, 1, 1, 2)
		w.publishAs(one, manyFacts(one, api.MaxFacts/2, 1))
		w.publishAs(two, manyFacts(two, api.MaxFacts/2, texts))
		expectCode(t, n.Compact(span(0, 10), w, w), want)
		if want != api.OK {
			w.expectSegs(one, two)
			w.expectTxns()
		}
	}
}

// TestCompactOtherFacts: P21.3, ErrArg, too, of facts that the setup's schema doesn't have.
func TestCompactOtherFacts(t *testing.T) {
	for _, schema := range []api.Schema{{Dims: 2, Meas: 1}, {Dims: 1}, {Meas: 1}, {Dims: 1, Meas: 2}} {
		w, n := rigged(t, ordinary())
		w.publish(chunkOf(0), chunkOf(10))
		w.retract(chunkOf(10))
		f := api.Fact{Time: 10, Dims: make([]string, schema.Dims), Meas: make([]int64, schema.Meas)}
		b, code := segment.Build(schema, []api.Many{{Fact: f, N: 1}})
		expectCode(t, code, api.OK)
		m := published(chunkOf(10), b, 1)
		m.Blob = "other"
		expectCode(t, w.store.Put(m.Blob, b), api.OK)
		w.do(api.Txn{Add: []api.Meta{m}})
		expectCode(t, n.Compact(span(0, 20), w, w), api.ErrArg)
		expectCode(t, n.Wipe(span(11, 12), w, w), api.ErrArg)
		w.expectSegs(chunkOf(0), chunkOf(10))
		if len(w.txns) > 0 {
			t.Fatal("asked", w.txns)
		}
	}
}

// TestCompactAway: P21.3, P21.5, the errors of both, at whatever call: nothing is lost, and it goes on when they are there again.
func TestCompactAway(t *testing.T) {
	fates := []fault{lost, unheard, {panics: true}}
	for _, code := range codes() {
		fates = append(fates, fault{code: code})
	}
	for _, f := range fates {
		for _, call := range []string{"State", "Get ", "Put ", "Do"} {
			for nth := 1; nth <= 2; nth++ {
				if nth == 2 && call != "Get " {
					continue
				}
				w, n := rigged(t, ordinary())
				w.publish(chunkOf(0), chunkOf(10))
				facts := w.facts()
				count := 0
				w.fate = func(name string) fault {
					if name == call {
						count++
					}
					if name == call && count == nth {
						return f
					}
					return fault{}
				}
				want := f.code
				if f.panics {
					want = api.ErrPower
				}
				expectCode(t, n.Compact(span(0, 20), w, w), want)
				w.expectFacts(facts)
				expectTerm(t, n, 1)
				if call != "Do" && len(w.txns) > 0 {
					t.Fatal("asked", w.txns)
				}
				w.fate = nil
				if done := call == "Do" && f.unheard; done {
					w.expectSegs(chunkOf(0), chunkOf(10), seg(0, 20, 2, 0, 1))
					expectCode(t, n.Compact(span(0, 20), w, w), api.ErrNone)
				} else {
					w.expectSegs(chunkOf(0), chunkOf(10))
					expectCode(t, n.Compact(span(0, 20), w, w), api.OK)
				}
				w.expectSegs(chunkOf(0), chunkOf(10), seg(0, 20, 2, 0, 1))
				w.expectFacts(facts)
			}
		}
	}
}

// TestCompactSpoilt: P21.3, blobs that are gone, that were spoilt, that are no segment.
func TestCompactSpoilt(t *testing.T) {
	good, code := segment.Build(ordinary().Schema, factsOf(chunkOf(10)))
	expectCode(t, code, api.OK)
	turned := slices.Clone(good)
	turned[len(turned)/2] ^= 1
	for name, c := range map[string]struct {
		spoil func(w *world, name string)
		want  api.Errno
	}{
		"gone":    {func(w *world, name string) { w.store.Delete(name) }, api.ErrNone},
		"spoilt":  {func(w *world, name string) { w.spoil(name, "spoilt") }, api.ErrSum},
		"nothing": {func(w *world, name string) { w.spoil(name, "") }, api.ErrSum},
		"no segment": {func(w *world, name string) {
			w.spoil(name, string(framed([]byte("no segment"))))
		}, readError([]byte("no segment"))},
		"empty":        {func(w *world, name string) { w.spoil(name, string(framed(nil))) }, readError(nil)},
		"a frame":      {func(w *world, name string) { w.spoil(name, string(framed(framed([]byte("x"))))) }, readError(framed([]byte("x")))},
		"half of one":  {func(w *world, name string) { w.spoil(name, string(framed(good[:9]))) }, readError(good[:9])},
		"a bit turned": {func(w *world, name string) { w.spoil(name, string(framed(turned))) }, readError(turned)},
	} {
		w, n := rigged(t, ordinary())
		w.publish(chunkOf(0), chunkOf(10))
		c.spoil(w, nameOf(chunkOf(10)))
		t.Log(name)
		if c.want == api.OK {
			t.Fatal("a segment")
		}
		expectCode(t, n.Compact(span(0, 20), w, w), c.want)
		expectCode(t, n.Wipe(span(5, 15), w, w), c.want)
		expectCode(t, n.Wipe(span(19, 20), w, w), c.want)
		w.expectTxns()
		expectTerm(t, n, 1)
		// What isn't concerned goes on.
		expectCode(t, n.Wipe(span(5, 10), w, w), api.OK)
		w.expectSegs(chunkOf(0), chunkOf(10), seg(0, 10, 2, 0, 1))
	}
}

func framed(b []byte) []byte {
	frame, _ := wire.Frame(b)
	return frame
}

func readError(b []byte) api.Errno {
	_, code := segment.Read(b)
	return code
}

// TestCompactFull: P21.3, P14.2, the book's refusal, if there are as many metas as may be.
func TestCompactFull(t *testing.T) {
	w, n := rigged(t, ordinary())
	w.publish(chunkOf(0), chunkOf(10))
	var add []api.Meta
	for at := range int64(api.MaxMetas - 2) {
		add = append(add, published(seg(100+at, 101+at, 1, 0, 0), nil, 0))
	}
	w.do(api.Txn{Add: add})
	expectCode(t, n.Compact(span(0, 20), w, w), api.ErrLimit)
	expectCode(t, n.Wipe(span(0, 20), w, w), api.ErrLimit)
	expectTerm(t, n, 1)
	w.retract(seg(100, 101, 1, 0, 0))
	expectCode(t, n.Compact(span(0, 20), w, w), api.OK)
}

// TestCompactTwins: P21.3, of equal contents at unlike places each has a blob, as often as it is done.
func TestCompactTwins(t *testing.T) {
	w, n := rigged(t, ordinary())
	for from := int64(0); from < 60; from += 10 {
		w.publishAs(chunkOf(from), nil)
	}
	before := w.segs()
	for from := int64(0); from < 60; from += 20 {
		expectCode(t, n.Compact(span(from, from+20), w, w), api.OK)
	}
	expectCode(t, n.Wipe(span(1, 59), w, w), api.OK)
	expectCode(t, n.Wipe(span(1, 59), w, w), api.OK)
	names := map[string]bool{}
	for _, m := range w.newMetas(before) {
		if names[m.Blob] || len(m.Blob) > 62 {
			t.Fatal(m)
		}
		names[m.Blob] = true
		w.contents(m)
	}
	if len(names) != 9 {
		t.Fatal(len(names))
	}
}
