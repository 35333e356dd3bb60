package realtime

import (
	"slices"
	"testing"

	"gristmill/api"
	"gristmill/fact"
)

// spoilFact changes all that a fact reaches.
func spoilFact(f api.Fact) {
	for at := range f.Dims {
		f.Dims[at] = "spoilt"
	}
	for at := range f.Meas {
		f.Meas[at] = -99
	}
	_ = append(f.Dims[:0], "x", "y")
	_ = append(f.Meas[:0], 11, 12)
}

func spoilSegs(segs []api.Seg) {
	for at := range segs {
		segs[at] = seg(7, 8, 9, 10, 11)
	}
	_ = append(segs, seg(1, 2, 3, 4, 5))
}

// spoil changes all that messages reach.
func spoil(l []api.Msg) {
	for at := range l {
		m := &l[at]
		spoilSegs(m.Segs)
		for g := range m.Groups {
			for d := range m.Groups[g].Key.Dims {
				m.Groups[g].Key.Dims[d] = "spoilt"
			}
			for p := range m.Groups[g].Parts {
				texts := m.Groups[g].Parts[p].Texts
				for k := range texts {
					texts[k] = "spoilt"
				}
				m.Groups[g].Parts[p] = api.Partial{N: 1, V: -5}
			}
			m.Groups[g] = api.Group{}
		}
		*m = api.Msg{}
	}
	_ = append(l, api.Msg{Kind: 5})
}

// TestFactsHandedIn: rule 3, facts that are handed in aren't changed, and aren't kept.
func TestFactsHandedIn(t *testing.T) {
	w, n := rigged(t, ordinary())
	f := api.Fact{Time: 3, Dims: make([]string, 1, 9), Meas: make([]int64, 1, 9)}
	for k, text := range []string{"a", "b", "c"} {
		f.Dims[0], f.Meas[0] = text, int64(k)
		spoil(n.Handle(sent(uint64(k+1), f)))
		if f.Dims[0] != text || f.Meas[0] != int64(k) || f.Time != 3 {
			t.Fatal("changed", f)
		}
		w.client[0] = append(w.client[0], api.Fact{Time: 3, Dims: []string{text}, Meas: []int64{int64(k)}})
	}
	spoilFact(f)
	expectTail(t, n, all(), 0, w.client[0], 3)
	n.Seal()
	n.Tick(1, w, w)
	expectPiece(t, n, all(), api.Piece{Seg: chunkOf(0), Span: api.Span{To: 10}}, w.client[0])
}

// TestAnswered: rule 3, whoever changes what is answered changes nothing else.
func TestAnswered(t *testing.T) {
	w, n := rigged(t, ordinary())
	w.sealed(n, 1, 3, 4, 12)
	w.take(n, 5)
	facts := w.client[0]
	q := queries()[0]
	p := api.Piece{Seg: chunkOf(0), Span: api.Span{To: 10}}
	for range 3 {
		first := n.Handle(asked(api.MsgTail, q, 0, p))
		second := n.Handle(asked(api.MsgTail, q, 0, p))
		third := n.Handle(asked(api.MsgAsk, q, 0, p))
		spoil(n.Handle(asked(api.MsgAsk, q, 0, p)))
		spoil(first)
		expectTail(t, n, q, 0, facts, 4)
		expectPiece(t, n, q, p, facts[:2])
		expectMsgs(t, second, n.Handle(asked(api.MsgTail, q, 0, p))...)
		expectMsgs(t, third, n.Handle(asked(api.MsgAsk, q, 0, p))...)
		spoilSegs(n.Served())
		expectSegs(t, n.Served(), chunkOf(0), chunkOf(10))
	}
}

// TestToldSegs: rule 3, whoever changes a MsgHave changes neither what is served nor what is told next.
func TestToldSegs(t *testing.T) {
	w, n := rigged(t, ordinary())
	l := w.sealed(n, 1, 3, 12)
	spoil(l)
	expectMsgs(t, n.Tick(2, w, w))
	expectMsgs(t, n.Tick(3, w, w))
	l = n.Tick(4, w, w)
	expectMsgs(t, l, have(4, 0, chunkOf(0), chunkOf(10)))
	spoilSegs(l[0].Segs)
	expectSegs(t, n.Served(), chunkOf(0), chunkOf(10))
	expectMsgs(t, n.Tick(5, w, w))
}

// TestHavesHandedIn: rule 3, what a historical node tells isn't changed, nor kept.
func TestHavesHandedIn(t *testing.T) {
	w, n := rigged(t, ordinary())
	w.sealed(n, 1, 3, 12)
	segs := []api.Seg{chunkOf(10), chunkOf(30), chunkOf(10)}
	n.Handle(have21(segs...))
	if !slices.Equal(segs, []api.Seg{chunkOf(10), chunkOf(30), chunkOf(10)}) {
		t.Fatal("changed", segs)
	}
	for at := range segs {
		segs[at] = chunkOf(0)
	}
	n.Tick(2, w, w)
	expectWaiting(t, n, 1)
}

// TestQueriesHandedIn: rule 3, queries aren't changed.
func TestQueriesHandedIn(t *testing.T) {
	w, n := rigged(t, ordinary())
	w.sealed(n, 1, 3, 12)
	q := all()
	q.Sets, q.Aggs = append(make([][]int, 0, 9), q.Sets...), append(make([]api.Agg, 0, 9), q.Aggs...)
	q.Filter = api.Filter{Kind: api.FilterIs, Texts: append(make([]string, 0, 9), "b", "a")}
	m := asked(api.MsgTail, q, 0, api.Piece{Seg: chunkOf(0), Span: api.Span{To: 10}})
	want := asked(api.MsgTail, all(), 0, m.Piece)
	want.Query.Filter = api.Filter{Kind: api.FilterIs, Texts: []string{"b", "a"}}
	n.Handle(m)
	expectMsgs(t, []api.Msg{m}, want)
	m.Kind, want.Kind = api.MsgAsk, api.MsgAsk
	n.Handle(m)
	expectMsgs(t, []api.Msg{m}, want)
}

// rude changes whatever it was handed, and whatever it told, as soon as the next call comes.
type rude struct {
	*world
	txns  []api.Txn
	blobs [][]byte
}

func (r *rude) spoil() {
	for _, t := range r.txns {
		for at := range t.Add {
			t.Add[at] = api.Meta{Seg: seg(7, 8, 9, 10, 11), Blob: "spoilt", Sum: 1, Rows: 99}
		}
		for at := range t.Moves {
			t.Moves[at] = api.Move{Stream: 1, From: 77, To: 99}
		}
	}
	for _, b := range r.blobs {
		for at := range b {
			b[at] ^= 0xff
		}
	}
	r.txns, r.blobs = nil, nil
}

func (r *rude) State() (api.State, api.Errno) {
	r.spoil()
	return r.world.State()
}

func (r *rude) Do(t api.Txn) (api.State, api.Errno) {
	r.spoil()
	own := t
	own.Add, own.Moves = slices.Clone(t.Add), slices.Clone(t.Moves)
	state, code := r.world.Do(own)
	r.txns = append(r.txns, t)
	return state, code
}

func (r *rude) Put(name string, b []byte) api.Errno {
	r.spoil()
	r.blobs = append(r.blobs, b)
	return r.world.Put(name, b)
}

// TestRude: rule 3, P19.7, what is handed to the book and to deep storage is theirs: the node's own stays as it was.
func TestRude(t *testing.T) {
	w, n := rigged(t, ordinary())
	r := &rude{world: w}
	w.take(n, 3, 12)
	n.Seal()
	for now := 1; now < 4; now++ {
		w.calls = 0
		w.fate = func(call int) fault { return map[int]fault{4: lost}[call] }
		n.Tick(now, r, r)
		w.fate = nil
		r.spoil()
		w.clear()
	}
	n.Tick(4, r, r)
	r.spoil()
	w.expectDone(1, 0, 2)
	w.expectOut(0)
	expectSegs(t, n.Served(), chunkOf(0), chunkOf(10))
	expectPiece(t, n, all(), api.Piece{Seg: chunkOf(0), Span: api.Span{To: 10}}, w.client[0][:1])
	n.Tick(5, r, r)
	expectWaiting(t, n, 1)
}

// TestStateIsTheirs: rule 3, what a book tells isn't changed, and isn't kept.
func TestStateIsTheirs(t *testing.T) {
	w, n := rigged(t, ordinary())
	w.publish(chunkOf(0), chunkOf(40))
	state := w.state()
	state.Metas = append(make([]api.Meta, 0, 50), state.Metas...)
	b := &told{state: state}
	w.take(n, 3, 12)
	n.Seal()
	n.Tick(1, b, w)
	n.Tick(2, b, w)
	if len(state.Metas) != 2 || state.Metas[:3][2] != (api.Meta{}) || state.Metas[0].Seg != chunkOf(0) || state.Metas[1].Seg != chunkOf(40) {
		t.Fatalf("changed: %+v", state.Metas[:3])
	}
	if !slices.Equal(state.Offsets, []uint64{0, 0}) {
		t.Fatal("changed", state.Offsets)
	}
	for at := range state.Metas {
		state.Metas[at].Seg = seg(0, 10, 77, 0, 0)
	}
	n.Tick(3, w, w)
	expectSegs(t, n.Served(), seg(0, 10, 1, 1, 0), chunkOf(10))
}

// TestSetupIsOwn: a setup that is changed behind New changes nothing, and nodes know nothing of one another.
func TestSetupIsOwn(t *testing.T) {
	s := ordinary()
	w := newWorld(t, s)
	n, code := New(0, s, w)
	expectCode(t, code, api.OK)
	s.Batch, s.Chunk = 1, 3
	other, code := New(1, s, w)
	expectCode(t, code, api.OK)
	w.take(n, 3, 12)
	n.Tick(1, w, w)
	w.expectDone(0, 0, 0)
	if other.Taken() != 0 || other.Waiting() != 0 || fact.Count(w.out[0]) != 0 {
		t.Fatal("knows of another")
	}
}
