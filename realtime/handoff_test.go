package realtime

import (
	"fmt"
	"slices"
	"testing"

	"gristmill/api"
)

// expectDone: so many transactions were done, and so many of the stream's facts are published.
func (w *world) expectDone(txns int, stream int, offset uint64) {
	w.t.Helper()
	if len(w.done) != txns || w.state().Offsets[stream] != offset {
		w.t.Fatalf("%d transactions, not %d; published %d, not %d", len(w.done), txns, w.state().Offsets[stream], offset)
	}
}

// TestSealAsked: P19.5, Seal with facts, without, twice, and again behind new ones.
func TestSealAsked(t *testing.T) {
	w, n := rigged(t, ordinary())
	n.Seal()
	expectMsgs(t, n.Tick(1, w, w))
	w.expectDone(0, 0, 0)
	// It was asked ahead of the last tick.
	w.take(n, 3)
	expectMsgs(t, n.Tick(2, w, w))
	w.expectDone(0, 0, 0)
	expectWaiting(t, n, 1)
	n.Seal()
	n.Seal()
	expectMsgs(t, n.Tick(3, w, w), have(3, 0, chunkOf(0)))
	w.expectDone(1, 0, 1)
	n.Tick(4, w, w)
	w.expectDone(1, 0, 1)
	n.Seal()
	n.Tick(5, w, w)
	w.expectDone(1, 0, 1)
	// What was taken behind the asking, ahead of the tick, is sealed, too.
	w.take(n, 4)
	n.Seal()
	w.take(n, 5)
	n.Tick(6, w, w)
	w.expectDone(2, 0, 3)
	n.Seal()
	w.take(n, 6)
	n.Tick(7, w, w)
	w.expectDone(3, 0, 4)
	expectWaiting(t, n, 3)
}

// TestSealByItself: P19.5, Batch facts, one less, one more, many times as many.
func TestSealByItself(t *testing.T) {
	for _, batch := range []int{1, 2, 5, 1000} {
		s := ordinary()
		s.Batch = batch
		for _, many := range []int{0, 1, batch - 1, batch, batch + 1, 3 * batch, 7*batch + 2} {
			w, n := rigged(t, s)
			for k := range many {
				w.take(n, int64(k%25))
			}
			n.Tick(1, w, w)
			if many < batch {
				w.expectDone(0, 0, 0)
				expectWaiting(t, n, min(many, 1))
				continue
			}
			w.expectDone(1, 0, uint64(many))
			expectWaiting(t, n, 1)
			for range batch - 1 {
				w.take(n, 7)
			}
			n.Tick(2, w, w)
			w.expectDone(1, 0, uint64(many))
			w.take(n, 7)
			n.Tick(3, w, w)
			w.expectDone(2, 0, uint64(many+batch))
			expectWaiting(t, n, 2)
		}
	}
}

// TestChunks: P19.5, facts of one chunk, of several, at each side of where one begins, at the ends of time; by chunks of any length.
func TestChunks(t *testing.T) {
	for _, length := range []int64{1, 2, 10, 1000, most/2 + 1, most - 1, most} {
		for _, times := range [][]int64{
			{0}, {most - 1}, {0, most - 1}, {5, 5, 5}, {9, 10}, {10, 9, 11, 0, 19, 20}, {1, 0}, {999, 1000, 1001},
			{most / 2, most/2 + 1, most/2 - 1}, {most - 2, most - 1, most - 3, 0}, {30, 20, 10, 0, 11, 21, 31},
		} {
			s := ordinary()
			s.Chunk = length
			w, n := rigged(t, s)
			w.sealed(n, 1, times...)
			w.expectDone(1, 0, uint64(len(times)))
			var want []api.Seg
			for _, span := range spansOf(w.client[0], length) {
				want = append(want, api.Seg{Span: span, Version: 1})
			}
			expectSegs(t, n.Served(), want...)
			w.expectOut(0)
		}
	}
}

// TestRows: P19.5, Rows are the segment's: alike facts are one.
func TestRows(t *testing.T) {
	w, n := rigged(t, ordinary())
	for _, f := range []api.Fact{at(3, 1), at(3, 1), at(3, 2), at(11, 1), at(3, 1)} {
		w.takeFact(n, f)
	}
	n.Tick(1, w, w)
	metas := w.state().Metas
	if len(metas) != 2 || metas[0].Rows != 2 || metas[1].Rows != 1 {
		t.Fatalf("%+v", metas)
	}
}

// TestBlobNames: P19.5, unlike contents have unlike names, whoever puts them, and whenever.
func TestBlobNames(t *testing.T) {
	s := ordinary()
	w := newWorld(t, s)
	names := map[string]string{}
	expectApart := func() {
		t.Helper()
		for _, m := range w.state().Metas {
			contents := fmt.Sprint(w.contents(m))
			if old, there := names[m.Blob]; there && old != contents {
				t.Fatal("one name of two", m.Blob)
			}
			names[m.Blob] = contents
			if len(m.Blob) < 1 || len(m.Blob) > 62 || slices.ContainsFunc([]byte(m.Blob), func(c byte) bool { return c < 33 || c > 126 }) {
				t.Fatalf("no name: %q", m.Blob)
			}
		}
	}
	for stream := range 2 {
		n := w.node(stream)
		for now := 1; now < 30; now++ {
			w.sealed(n, now, int64(now%4), int64(now%7+10), most-1)
		}
	}
	expectApart()
	// A node is made anew, and its stream has other facts at the offsets of those that were put already.
	for round := range 5 {
		n := w.node(0)
		w.take(n, 1, int64(round), 12)
		n.Seal()
		// Both blobs are put, and then nothing is published.
		w.fate = func(call int) fault { return map[int]fault{4: lost}[call] }
		n.Tick(1, w, w)
		w.fate = nil
		w.expectDone(58, 0, 87)
	}
	if left := len(w.store.List()); left != 3*58+5+1 {
		t.Fatal("not put, or not apart", left)
	}
	n := w.node(0)
	w.sealed(n, 1, 1, 77, 12)
	w.expectDone(59, 0, 90)
	expectApart()
}

// TestLongBlobNames: P19.5, the names of blobs with numbers as long as may be are such as may be.
func TestLongBlobNames(t *testing.T) {
	s := ordinary()
	s.Streams, s.Chunk = 8, 1
	w := newWorld(t, s)
	w.moveTo(7, highest-400)
	n := w.node(7)
	for k := range 400 {
		w.take(n, most-1-int64(k))
	}
	n.Tick(1, w, w)
	w.expectDone(1, 7, highest)
	n.Handle(have21(n.Served()...))
	n.Tick(2, w, w)
	expectWaiting(t, n, 0)
	expectNoTail(t, n, all(), highest-1, api.ErrGone)
}

// TestPutAnew: P19.5, each blob is put at the very tick at which it is published, whatever was removed between ticks.
func TestPutAnew(t *testing.T) {
	w, n := rigged(t, ordinary())
	w.take(n, 3, 12)
	n.Seal()
	for now := 1; now < 6; now++ {
		// All but the Do is there.
		w.calls = 0
		w.fate = func(call int) fault { return map[int]fault{4: lost}[call] }
		n.Tick(now, w, w)
		w.expectDone(0, 0, 0)
		if len(w.store.List()) != 2 {
			t.Fatal("not put", w.store.List())
		}
		w.clear()
		if len(w.store.List()) != 0 {
			t.Fatal("not cleared")
		}
	}
	w.fate = nil
	n.Tick(6, w, w)
	w.expectDone(1, 0, 2)
	w.clear()
	if len(w.store.List()) != 2 {
		t.Fatal("cleared")
	}
}

// TestAllAtOnce: P19.5 and P19.7, what was sealed while others were away is published at one tick, batch behind batch.
func TestAllAtOnce(t *testing.T) {
	for _, away := range []struct {
		b api.Book
		d api.Deep
	}{{nil, nil}, {&told{code: api.ErrPower}, nil}, {nil, newWorld(t, ordinary())}} {
		w, n := rigged(t, ordinary())
		for now := 1; now < 8; now++ {
			w.take(n, int64(now), int64(now*3))
			n.Seal()
			expectMsgs(t, n.Tick(now, away.b, away.d))
			expectWaiting(t, n, now)
			expectSegs(t, n.Served())
		}
		w.take(n, 1)
		expectWaiting(t, n, 8)
		n.Tick(8, w, w)
		w.expectDone(7, 0, 14)
		for at, txn := range w.done {
			if txn.Moves[0] != (api.Move{From: uint64(2 * at), To: uint64(2*at + 2)}) {
				t.Fatalf("%d: %+v", at, txn.Moves)
			}
		}
		expectWaiting(t, n, 8)
	}
}

// TestTooMany: P19.5, P19.7, facts of a chunk that no segment has room for are published all the same, by one transaction.
func TestTooMany(t *testing.T) {
	s := ordinary()
	s.Schema = api.Schema{Dims: 0, Meas: 1}
	w, n := rigged(t, s)
	w.loose = true
	for k := range 9000 {
		w.takeFact(n, api.Fact{Time: int64(k % 20), Meas: []int64{int64(k)}})
	}
	n.Tick(1, w, w)
	w.expectDone(1, 0, 9000)
	w.expectOut(0)
	// As many of which few are unlike are one segment.
	w, n = rigged(t, s)
	for k := range 9000 {
		w.takeFact(n, api.Fact{Time: int64(k % 10), Meas: []int64{int64(k % 400)}})
	}
	n.Tick(1, w, w)
	w.expectDone(1, 0, 9000)
	expectSegs(t, n.Served(), chunkOf(0))
	// Texts that have no room in a segment's bytes, though their facts are few.
	s.Schema, s.Batch = api.Schema{Dims: 8}, 1000
	w, n = rigged(t, s)
	w.loose = true
	for k := range 1000 {
		f := api.Fact{Time: 5}
		for dim := range 8 {
			f.Dims = append(f.Dims, fmt.Sprintf("%064d", k*8+dim))
		}
		w.takeFact(n, f)
	}
	n.Tick(1, w, w)
	w.expectDone(1, 0, 1000)
	if parts := len(n.Served()); parts < 2 || parts > 8 {
		t.Fatal(parts)
	}
}

// TestLimit: P19.5, what the metadata has no room for waits, and is published when it has.
func TestLimit(t *testing.T) {
	s := ordinary()
	s.Chunk = 1
	w, n := rigged(t, s)
	var others []api.Seg
	for k := range 998 {
		others = append(others, api.Seg{Span: api.Span{From: int64(k + 100), To: int64(k + 101)}, Version: 1})
	}
	w.publish(others...)
	for now := range 3 {
		w.sealed(n, now+1, int64(3*now), int64(3*now)+1, int64(3*now)+2)
		w.expectDone(0, 0, 0)
		expectSegs(t, n.Served())
	}
	w.drop(others[0])
	n.Tick(5, w, w)
	w.expectDone(1, 0, 3)
	w.drop(others[1:7]...)
	n.Tick(6, w, w)
	w.expectDone(3, 0, 9)
	expectWaiting(t, n, 3)
}

// TestEpochs: P19.5, a transaction that was refused since others published meanwhile is asked anew, by the names that it has then.
func TestEpochs(t *testing.T) {
	w, n := rigged(t, ordinary())
	w.take(n, 3, 12)
	n.Seal()
	for now := range 4 {
		w.before = func() { w.publish(api.Seg{Span: api.Span{From: 0, To: 10}, Version: 1, Part: now}) }
		n.Tick(now+1, w, w)
	}
	w.before = nil
	w.expectDone(0, 0, 0)
	expectSegs(t, n.Served())
	expectMsgs(t, n.Tick(5, w, w), have(5, 0, api.Seg{Span: api.Span{To: 10}, Version: 1, Part: 4}, chunkOf(10)))
	w.expectDone(1, 0, 2)
}

// TestMoved: P19.7, facts that others published aren't published twice, and are told as long as nothing else is known.
func TestMoved(t *testing.T) {
	w, n := rigged(t, ordinary())
	w.take(n, 3, 12)
	facts := w.client[0]
	for at, offset := range []uint64{1, 2, 3, 9} {
		w.moveTo(0, offset)
		n.Seal()
		n.Tick(at+1, w, w)
		if len(w.wants) != 0 {
			t.Fatalf("%+v", w.wants)
		}
		expectSegs(t, n.Served())
		expectWaiting(t, n, 1)
		expectTail(t, n, all(), 0, facts, 2)
	}
	// Asked, and refused; what others published then isn't it.
	n = w.node(0)
	w.take(n, 3)
	n.Seal()
	w.before = func() { w.publish(chunkOf(50)) }
	n.Tick(5, w, w)
	w.before = nil
	w.moveTo(0, 10)
	w.moveTo(0, 11)
	n.Tick(6, w, w)
	if len(w.wants) != 1 {
		t.Fatalf("%+v", w.wants)
	}
	expectSegs(t, n.Served())
	expectWaiting(t, n, 1)
	// A book that tells no offset of the stream any more.
	n.Tick(9, published(), w)
	n.Tick(10, &told{}, w)
	expectWaiting(t, n, 1)
}

// faults are plans of a tick's calls: which one has which fate, alone, or with all that follow.
func faults(calls int) []func(call int) fault {
	var plans []func(call int) fault
	for at := range calls {
		for _, one := range []fault{lost, unheard, panicked} {
			plans = append(plans, func(call int) fault { return map[int]fault{at: one}[call] })
			plans = append(plans, func(call int) fault {
				if call >= at {
					return one
				}
				return done
			})
		}
	}
	return plans
}

// TestFaults: P19.5 to P19.7, others away at any call of a tick, from it on, for one tick or for several; done or not.
func TestFaults(t *testing.T) {
	for _, plan := range faults(14) {
		for ticks := range 3 {
			w, n := rigged(t, ordinary())
			w.take(n, 3, 12, 4)
			n.Seal()
			n.Tick(1, nil, nil)
			w.take(n, 13, 29)
			n.Seal()
			now := 2
			for range ticks + 1 {
				w.fate, w.calls = plan, 0
				n.Tick(now, w, w)
				w.fate = nil
				w.clear()
				w.expectKnown(n)
				now++
			}
			for range 2 {
				n.Tick(now, w, w)
				w.expectDone(2, 0, 5)
				expectSegs(t, n.Served(), w.segs()...)
				expectWaiting(t, n, 2)
				now++
			}
			w.expectOut(0)
			// Each is told, and each is forgotten.
			n.Handle(have21(w.segs()...))
			n.Tick(now, w, w)
			expectWaiting(t, n, 0)
			expectNoTail(t, n, all(), 4, api.ErrGone)
		}
	}
}

// segs are those of all metas.
func (w *world) segs() []api.Seg {
	var segs []api.Seg
	for _, m := range w.state().Metas {
		segs = append(segs, m.Seg)
	}
	return segs
}

// expectKnown: a node serves nothing but what is published, batch by batch, and has all that it took.
func (w *world) expectKnown(n *Node) {
	w.t.Helper()
	segs := w.segs()
	for _, s := range n.Served() {
		if !slices.Contains(segs, s) {
			w.t.Fatalf("serves %+v, which isn't there", s)
		}
	}
	expectTail(w.t, n, all(), w.ahead[n.stream], w.client[n.stream], n.Taken())
}

// TestUnheard: P19.5, P19.6, a transaction that was done though nobody told so: served as soon as the book tells its state, and never asked anew.
func TestUnheard(t *testing.T) {
	w, n := rigged(t, ordinary())
	w.take(n, 3, 12)
	n.Seal()
	// The calls: State, State, Put, Put, Do, and then the look at what became of it.
	w.fate = func(call int) fault { return map[int]fault{4: unheard}[call] }
	expectMsgs(t, n.Tick(1, w, w), have(1, 0, chunkOf(0), chunkOf(10)))
	w.expectDone(1, 0, 2)
	n.Tick(2, w, w)
	if len(w.wants) != 1 {
		t.Fatalf("%+v", w.wants)
	}
	// Away for several ticks: nothing is known.
	w, n = rigged(t, ordinary())
	w.take(n, 3, 12)
	n.Seal()
	w.fate = func(call int) fault {
		if call >= 4 {
			return unheard
		}
		return done
	}
	for now := 1; now < 5; now++ {
		expectMsgs(t, n.Tick(now, w, w))
		expectSegs(t, n.Served())
		expectWaiting(t, n, 1)
	}
	// Others go on meanwhile; what a historical node tells now it needn't tell again.
	w.publish(chunkOf(30))
	n.Handle(have21(chunkOf(0)))
	w.fate = nil
	expectMsgs(t, n.Tick(5, w, w), have(5, 0, chunkOf(0), chunkOf(10)))
	n.Handle(have21(chunkOf(10)))
	expectMsgs(t, n.Tick(6, w, w), have(6, 0))
	expectWaiting(t, n, 0)
	if len(w.wants) != 1 {
		t.Fatalf("%+v", w.wants)
	}
}

// TestUnheardHeld: P19.6, it comes out that all was done when others have all of it already: it is forgotten at once.
func TestUnheardHeld(t *testing.T) {
	w, n := rigged(t, ordinary())
	w.take(n, 3, 12)
	n.Seal()
	w.fate = func(call int) fault { return map[int]fault{4: unheard, 5: lost}[call] }
	expectMsgs(t, n.Tick(1, w, w))
	w.fate = nil
	n.Handle(have21(chunkOf(0), chunkOf(10)))
	expectWaiting(t, n, 1)
	expectMsgs(t, n.Tick(2, w, w))
	expectWaiting(t, n, 0)
	expectNoTail(t, n, all(), 1, api.ErrGone)
}

// TestUnheardLate: P19.5, the book is away at a tick's first call, and tells at a later one that all was done.
func TestUnheardLate(t *testing.T) {
	w, n := rigged(t, ordinary())
	w.take(n, 3, 12)
	n.Seal()
	n.Tick(1, nil, w)
	w.take(n, 4)
	n.Seal()
	w.calls = 0
	w.fate = func(call int) fault { return map[int]fault{4: unheard, 5: lost}[call] }
	expectMsgs(t, n.Tick(2, w, w))
	w.expectDone(1, 0, 2)
	w.calls = 0
	w.fate = func(call int) fault { return map[int]fault{0: lost}[call] }
	expectMsgs(t, n.Tick(3, w, w), have(3, 0, chunkOf(0), seg(0, 10, 1, 1, 0), chunkOf(10)))
	w.expectDone(2, 0, 3)
	if len(w.wants) != 2 {
		t.Fatalf("%+v", w.wants)
	}
}

// TestUndone: P19.5, P19.6, a transaction that wasn't done: what was told of its names meanwhile meant other segments.
func TestUndone(t *testing.T) {
	w, n := rigged(t, ordinary())
	w.take(n, 3)
	n.Seal()
	w.fate = func(call int) fault {
		if call >= 3 {
			return lost
		}
		return done
	}
	n.Tick(1, w, w)
	w.fate = nil
	w.publish(chunkOf(0))
	n.Handle(have21(chunkOf(0), api.Seg{Span: api.Span{To: 10}, Version: 1, Part: 1}))
	second := api.Seg{Span: api.Span{To: 10}, Version: 1, Part: 1}
	expectMsgs(t, n.Tick(2, w, w), have(2, 0, second))
	n.Tick(3, w, w)
	expectSegs(t, n.Served(), second)
	n.Handle(have21(second))
	n.Tick(4, w, w)
	expectSegs(t, n.Served())
}

// TestFarStream: P19.5, a stream that is far already is moved on from there, to its very end.
func TestFarStream(t *testing.T) {
	w := newWorld(t, ordinary())
	w.moveTo(1, highest-3)
	n := w.node(1)
	w.sealed(n, 1, 3)
	w.expectDone(1, 1, highest-2)
	w.sealed(n, 2, 4, 15)
	w.expectDone(2, 1, highest)
	expectWaiting(t, n, 2)
	expectTail(t, n, all(), highest-3, w.client[1], highest)
	n.Seal()
	n.Tick(3, w, w)
	w.expectDone(2, 1, highest)
	n.Handle(have21(n.Served()...))
	n.Tick(4, w, w)
	expectWaiting(t, n, 0)
	expectTail(t, n, all(), highest, nil, highest)
}
