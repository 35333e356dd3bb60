package realtime

import (
	"slices"
	"testing"

	"gristmill/api"
)

// plainBatch is a batch as the document's words have it.
type plainBatch struct {
	to   uint64
	segs []api.Seg // once it is published
	held []api.Seg // of them those that a historical node told
}

// plain is what a node is to be, by what was done in its world.
type plain struct {
	w       *world
	stream  int
	batches []*plainBatch
	gone    uint64 // all facts up to it are forgotten
	sealed  uint64
	asked   bool
	told    []api.Seg
	toldAt  int
	txns    int // how many of the world's were looked at
}

func plainOf(w *world, n *Node) *plain {
	return &plain{w: w, stream: n.stream, gone: n.Taken(), sealed: n.Taken(), txns: len(w.done)}
}

func (p *plain) taken() uint64 { return p.w.ahead[p.stream] + uint64(len(p.w.client[p.stream])) }

// look takes in which batches were published since.
func (p *plain) look() {
	for ; p.txns < len(p.w.done); p.txns++ {
		t := p.w.done[p.txns]
		if t.Moves[0].Stream != p.stream {
			continue
		}
		at := slices.IndexFunc(p.batches, func(b *plainBatch) bool { return len(b.segs) == 0 })
		if at < 0 || p.batches[at].to != t.Moves[0].To {
			p.w.t.Fatalf("published %+v, of which there is no batch", t)
		}
		for _, m := range t.Add {
			p.batches[at].segs = append(p.batches[at].segs, m.Seg)
		}
	}
}

// mayGo tells whether the first batch may be forgotten at a state.
func (p *plain) mayGo(named []api.Seg) bool {
	if len(p.batches) == 0 || len(p.batches[0].segs) == 0 {
		return false
	}
	first := p.batches[0]
	for _, s := range first.segs {
		if !slices.Contains(first.held, s) && slices.Contains(named, s) {
			return false
		}
	}
	return true
}

func (p *plain) forget() {
	p.gone = p.batches[0].to
	p.batches = p.batches[1:]
}

// seal is what a tick does first.
func (p *plain) seal() {
	if open := p.taken() - p.sealed; open > 0 && (p.asked || open >= uint64(p.w.setup.Batch)) {
		p.sealed = p.taken()
		p.batches = append(p.batches, &plainBatch{to: p.sealed})
	}
	p.asked = false
}

// held takes in what a historical node told.
func (p *plain) held(segs []api.Seg) {
	p.look()
	for _, b := range p.batches {
		for _, s := range segs {
			if slices.Contains(b.segs, s) {
				b.held = append(b.held, s)
			}
		}
	}
}

func (p *plain) served() []api.Seg {
	var segs []api.Seg
	for _, b := range p.batches {
		segs = append(segs, b.segs...)
	}
	slices.SortFunc(segs, func(a, b api.Seg) int {
		return slices.Compare(
			[]int64{a.Span.From, a.Span.To, int64(a.Version), int64(a.Part)},
			[]int64{b.Span.From, b.Span.To, int64(b.Version), int64(b.Part)},
		)
	})
	return segs
}

func (p *plain) waiting() int {
	if p.taken() > p.sealed {
		return len(p.batches) + 1
	}
	return len(p.batches)
}

// tick lets a node go on while all are there, and expects all that it does.
func (p *plain) tick(n *Node, now int) {
	p.w.t.Helper()
	p.look()
	named := p.w.segs()
	l := n.Tick(now, p.w, p.w)
	for p.mayGo(named) {
		p.forget()
	}
	p.seal()
	p.look()
	if p.w.state().Offsets[p.stream] != p.sealed {
		p.w.t.Fatalf("published %v, not %d", p.w.state().Offsets, p.sealed)
	}
	expectSegs(p.w.t, n.Served(), p.served()...)
	p.expectTold(n, now, l)
	p.expect(n)
}

// tickAmid lets a node go on while others are away at some calls. How far it comes hangs on how far it asks them; but
// it lets go nothing that it may not, and it knows nothing that isn't.
func (p *plain) tickAmid(n *Node, now int, plan func(call int) fault) {
	p.w.t.Helper()
	p.look()
	named := p.w.segs()
	p.w.fate, p.w.calls = plan, 0
	l := n.Tick(now, p.w, p.w)
	p.w.fate = nil
	p.w.open()
	p.seal()
	for p.waiting() > n.Waiting() {
		if !p.mayGo(named) {
			p.w.t.Fatalf("forgot %+v", p.batches)
		}
		p.forget()
	}
	p.look()
	p.w.expectOut(p.stream)
	for _, s := range n.Served() {
		if !slices.Contains(p.served(), s) {
			p.w.t.Fatalf("serves %+v, but published %+v", n.Served(), p.served())
		}
	}
	p.expectTold(n, now, l)
	p.expect(n)
}

// expectTold: a message if what is served changed, or Retry ticks went by.
func (p *plain) expectTold(n *Node, now int, l []api.Msg) {
	p.w.t.Helper()
	served := n.Served()
	if slices.Equal(served, p.told) && (len(served) == 0 || now < p.toldAt+p.w.setup.Retry) {
		expectMsgs(p.w.t, l)
		return
	}
	expectMsgs(p.w.t, l, have(now, p.stream, served...))
	p.told, p.toldAt = served, now
}

// expect asks a node for all that it has.
func (p *plain) expect(n *Node) {
	p.w.t.Helper()
	expectWaiting(p.w.t, n, p.waiting())
	if n.Taken() != p.taken() {
		p.w.t.Fatalf("%d taken, not %d", n.Taken(), p.taken())
	}
	ahead := p.w.ahead[p.stream]
	for _, offset := range []uint64{p.gone, p.gone/2 + p.taken()/2 + 1, p.sealed, p.taken()} {
		if p.gone <= offset && offset <= p.taken() {
			expectTail(p.w.t, n, all(), offset, p.w.client[p.stream][offset-ahead:], p.taken())
		}
	}
	if p.gone > 0 {
		expectNoTail(p.w.t, n, all(), p.gone-1, api.ErrGone)
	}
	expectNoTail(p.w.t, n, all(), p.taken()+1, api.ErrGap)
}

// expectPieces asks a node for each segment that it serves, and expects the facts of its blob.
func (p *plain) expectPieces(n *Node) {
	p.w.t.Helper()
	for _, b := range p.batches {
		for _, s := range b.segs {
			facts := p.factsOf(b, s)
			expectPiece(p.w.t, n, all(), api.Piece{Seg: s, Span: api.Span{To: most}}, facts)
			expectPiece(p.w.t, n, all(), api.Piece{Seg: s, Span: api.Span{From: 3, To: 14}}, facts)
		}
	}
}

// factsOf are a batch's facts of the chunk of one of its segments: its segments stand as its chunks rise.
func (p *plain) factsOf(b *plainBatch, s api.Seg) []api.Fact {
	ahead := p.w.ahead[p.stream]
	from := ahead
	for _, t := range p.w.done {
		if m := t.Moves[0]; m.Stream == p.stream && m.To == b.to {
			from = m.From
		}
	}
	all := p.w.client[p.stream][from-ahead : b.to-ahead]
	span := spansOf(all, p.w.setup.Chunk)[slices.Index(b.segs, s)]
	var facts []api.Fact
	for _, f := range all {
		if span.From <= f.Time && f.Time < span.To {
			facts = append(facts, f)
		}
	}
	return facts
}

// thrownPlan is a plan of faults that looks thrown; so is a cut of one of the disks.
func thrownPlan(w *world, numbers *stream) func(call int) fault {
	if numbers.below(3) == 0 {
		d := w.disks[numbers.below(2)]
		d.CutAt(d.Ops()+numbers.below(8), numbers.below(200))
		return nil
	}
	fates := []fault{done, done, done, lost, unheard, panicked}
	often := 3 + numbers.below(4)
	plan := make([]fault, 60)
	for at := range plan {
		plan[at] = fates[numbers.below(often)]
	}
	return func(call int) fault { return plan[min(call, 59)] }
}

// others does what other nodes may do between ticks.
func (w *world) others(numbers *stream) {
	segs := w.segs()
	switch numbers.below(6) {
	case 0:
		w.clear()
	case 1:
		// One that goes ahead of all in its span, as when they are put together.
		from := int64(numbers.below(3)) * 10
		to, version := from+10+int64(numbers.below(2))*10, 1
		for _, s := range segs {
			if s.Span.From < to && from < s.Span.To {
				version = max(version, s.Version+1)
			}
		}
		w.publish(seg(from, to, version, 0, 1))
	case 2:
		// Of what somebody goes ahead of something is dropped.
		for _, s := range segs {
			ahead := func(o api.Seg) bool {
				return o.Version > s.Version && o.Span.From <= s.Span.From && s.Span.To <= o.Span.To
			}
			if slices.ContainsFunc(segs, ahead) && numbers.below(2) == 0 {
				w.drop(s)
			}
		}
	}
}

// TestThrown: P19.1 to P19.7, two nodes that go on while others do what they may, are away, are cut, and while they are made anew.
func TestThrown(t *testing.T) {
	numbers := stream(41)
	amid, whole := 0, 0
	for range 80 {
		s := ordinary()
		s.Batch, s.Retry = 1+numbers.below(6), 1+numbers.below(4)
		w := newWorld(t, s)
		w.moveTo(1, 3)
		nodes := []*Node{w.node(0), w.node(1)}
		plains := []*plain{plainOf(w, nodes[0]), plainOf(w, nodes[1])}
		trouble := numbers.below(3)
		for now := 1; now < 25; now++ {
			for at, n := range nodes {
				p := plains[at]
				throw(&numbers, w, n, p)
				if numbers.below(4) < trouble {
					p.tickAmid(n, now, thrownPlan(w, &numbers))
					amid++
				} else {
					p.tick(n, now)
					p.expectPieces(n)
					whole++
				}
				w.others(&numbers)
				if numbers.below(40) == 0 {
					nodes[at] = w.node(at)
					plains[at] = plainOf(w, nodes[at])
				}
			}
		}
		finish(w, nodes, plains)
	}
	if amid < 500 || whole < 500 {
		t.Fatal("too few to tell anything", amid, whole)
	}
}

// throw does calls between ticks.
func throw(numbers *stream, w *world, n *Node, p *plain) {
	for range numbers.below(5) {
		w.take(n, int64(numbers.below(30)))
		expectTake(w.t, n, n.Taken()-uint64(numbers.below(2)), at(1, 1), n.Taken(), api.OK)
		expectTake(w.t, n, n.Taken()+2, at(1, 1), n.Taken(), api.ErrGap)
	}
	if numbers.below(3) == 0 {
		n.Seal()
		p.asked = true
	}
	var told []api.Seg
	for _, s := range w.segs() {
		if numbers.below(3) == 0 {
			told = append(told, s)
		}
	}
	n.Handle(api.Msg{Kind: api.MsgHave, From: api.Store + numbers.below(20), Segs: told})
	p.held(told)
	n.Handle(api.Msg{Kind: api.MsgHave, From: api.Leader, Segs: w.segs()})
	p.expect(n)
}

// finish: all are there, all is told: all is published and forgotten.
func finish(w *world, nodes []*Node, plains []*plain) {
	w.t.Helper()
	for at, n := range nodes {
		p := plains[at]
		n.Seal()
		p.asked = true
		p.tick(n, 100)
		n.Handle(have21(w.segs()...))
		p.held(w.segs())
		p.tick(n, 101)
		expectWaiting(w.t, n, 0)
		expectSegs(w.t, n.Served())
		w.expectOut(at)
		if taken := n.Taken(); w.state().Offsets[at] != taken {
			w.t.Fatal("left out", w.state().Offsets, taken)
		}
	}
}

// TestCuts: P19.7, cuts of either disk at each operation of a hand-off, with some part of what is written.
func TestCuts(t *testing.T) {
	for which := range 2 {
		for op := range 12 {
			for _, part := range []int{0, 1, 20, 1 << 20} {
				w, n := rigged(t, ordinary())
				p := plainOf(w, n)
				for now := 1; now < 4; now++ {
					w.take(n, int64(now), int64(now+10))
					n.Seal()
					p.asked = true
					if d := w.disks[which]; now < 3 {
						d.CutAt(d.Ops()+op, part)
					}
					p.tickAmid(n, now, nil)
				}
				finish(w, []*Node{n}, []*plain{p})
			}
		}
	}
}
