package realtime

import (
	"cmp"
	"fmt"
	"reflect"
	"slices"
	"testing"

	"gristmill/api"
	"gristmill/blob"
	"gristmill/disk"
	"gristmill/fact"
	"gristmill/metalog"
	"gristmill/segment"
	"gristmill/wire"
)

const (
	most    = 1 << 40 // the last moment's end
	highest = 1<<64 - 1
)

// stream tells numbers that look thrown, the same ones at each run.
type stream uint64

func (s *stream) below(n int) int {
	*s = *s*6364136223846793005 + 1442695040888963407
	return int(uint64(*s) >> 31 % uint64(n))
}

// fault is what becomes of a call.
type fault int

const (
	done     fault = iota // as it should
	lost                  // they are away, and it isn't done
	unheard               // it is done, and then they are away
	panicked              // it isn't done, and panics
)

// world is what nodes see: the metadata and deep storage, on disks. All that is published in it by a realtime node
// is held against what the document says.
type world struct {
	t      *testing.T
	setup  api.Setup
	disks  [2]*disk.Disk // the metadata's, deep storage's
	log    *metalog.Log
	store  *blob.Store
	client [][]api.Fact         // what each stream's facts are
	ahead  []uint64             // but for the first ones, of which nothing is asked
	fate   func(call int) fault // of the calls of State, Do, Put, by their numbers, from 0 on
	calls  int
	before func() // what others do ahead of each Do
	loose  bool   // a chunk's facts may be too many for one segment
	wants  []api.Txn
	done   []api.Txn    // the nodes' transactions
	out    [][]api.Many // the facts that they published, by streams

	doubt    api.State // the state at which the power went off in a Do
	doubtful api.Txn   // what was asked then, if there is a move in it
}

func newWorld(t *testing.T, s api.Setup) *world {
	t.Helper()
	w := &world{
		t: t, setup: s, disks: [2]*disk.Disk{disk.New(), disk.New()}, client: make([][]api.Fact, s.Streams),
		ahead: make([]uint64, s.Streams), out: make([][]api.Many, s.Streams),
	}
	w.open()
	return w
}

// open opens the metadata and deep storage, as the disks have them; cuts that didn't come to be never do.
func (w *world) open() {
	w.t.Helper()
	var code api.Errno
	for _, d := range w.disks {
		d.CutAt(-1, 0)
		d.On()
	}
	w.log, code = metalog.Open(w.disks[0], w.setup.Streams)
	expectCode(w.t, code, api.OK)
	w.store, code = blob.Open(w.disks[1])
	expectCode(w.t, code, api.OK)
	if len(w.doubtful.Moves) > 0 && w.state().Epoch > w.doubt.Epoch {
		w.expectTxn(w.doubt, w.doubtful)
	}
	w.doubtful = api.Txn{}
}

// call does a call, or doesn't.
func (w *world) call(do func() api.Errno) api.Errno {
	now := done
	if w.fate != nil {
		now = w.fate(w.calls)
	}
	w.calls++
	switch now {
	case lost:
		return api.ErrPower
	case panicked:
		panic("away")
	}
	code := do()
	if now == unheard {
		return api.ErrPower
	}
	return code
}

func (w *world) State() (state api.State, code api.Errno) {
	code = w.call(func() api.Errno {
		if w.disks[0].Off() {
			return api.ErrPower
		}
		state = w.log.State()
		return api.OK
	})
	return state, code
}

func (w *world) Do(t api.Txn) (state api.State, code api.Errno) {
	if w.before != nil {
		w.before()
	}
	code = w.call(func() (code api.Errno) {
		w.wants = append(w.wants, t)
		old := w.log.State()
		state, code = w.log.Do(t)
		if code == api.OK {
			w.expectTxn(old, t)
		} else if code == api.ErrPower {
			w.doubt, w.doubtful = old, t
		}
		return code
	})
	return state, code
}

func (w *world) Elect(int) (api.State, api.Errno) {
	w.t.Error("a realtime node elects nobody")
	return api.State{}, api.ErrPower
}

func (w *world) Put(name string, b []byte) api.Errno {
	return w.call(func() api.Errno {
		code := w.store.Put(name, b)
		if code != api.OK && code != api.ErrPower {
			w.t.Errorf("refused: %q, %d", name, code)
		}
		return code
	})
}

func (w *world) Get(name string) ([]byte, api.Errno) { return w.store.Get(name) }

func (w *world) Delete(name string) api.Errno {
	w.t.Error("a realtime node deletes nothing")
	return api.ErrPower
}

func (w *world) List() ([]string, api.Errno) { return w.store.List(), api.OK }

// clear takes away from deep storage what no meta names.
func (w *world) clear() {
	named := map[string]int{}
	for _, m := range w.log.State().Metas {
		named[m.Blob]++
	}
	for _, name := range w.store.List() {
		if named[name] == 0 {
			w.store.Delete(name)
		}
	}
}

// publish adds segments to the metadata, as others do. (Nobody reads their blobs.)
func (w *world) publish(segs ...api.Seg) {
	w.t.Helper()
	t := api.Txn{Epoch: w.log.State().Epoch}
	for _, s := range segs {
		t.Add = append(t.Add, api.Meta{Seg: s, Blob: "other"})
	}
	_, code := w.log.Do(t)
	expectCode(w.t, code, api.OK)
}

// drop takes segments out of the metadata, as others do.
func (w *world) drop(segs ...api.Seg) {
	w.t.Helper()
	_, code := w.log.Do(api.Txn{Epoch: w.log.State().Epoch, Drop: segs})
	expectCode(w.t, code, api.OK)
}

// moveTo has so many facts of a stream published, by nodes that are no more, and of which nothing is asked.
func (w *world) moveTo(stream int, offset uint64) {
	w.t.Helper()
	state := w.log.State()
	move := api.Move{Stream: stream, From: state.Offsets[stream], To: offset}
	_, code := w.log.Do(api.Txn{Epoch: state.Epoch, Moves: []api.Move{move}})
	expectCode(w.t, code, api.OK)
	w.client[stream], w.ahead[stream] = nil, offset
}

// state is the metadata's, told without a call that is counted.
func (w *world) state() api.State { return w.log.State() }

// expectTxn holds a transaction of a node that was done at a state against P19.5 and P19.7.
func (w *world) expectTxn(old api.State, t api.Txn) {
	w.t.Helper()
	if t.Term != 0 || len(t.Drop) != 0 || t.Wipe != (api.Span{}) || len(t.Moves) != 1 || len(t.Add) == 0 {
		w.t.Fatalf("no such transaction: %+v", t)
	}
	move := t.Moves[0]
	if move.From != old.Offsets[move.Stream] || move.To <= move.From {
		w.t.Fatalf("no such move: %+v of %v", move, old.Offsets)
	}
	ahead := w.ahead[move.Stream]
	facts := w.client[move.Stream][move.From-ahead : move.To-ahead]
	var there []api.Seg
	for _, m := range old.Metas {
		there = append(there, m.Seg)
	}
	rest := t.Add
	for _, span := range spansOf(facts, w.setup.Chunk) {
		want := fact.Within(fact.Bag(facts), span)
		var got []api.Many
		many := 0
		for len(rest) > 0 && (many == 0 || w.loose && fact.Count(got) < fact.Count(want)) {
			name := plainName(there, span)
			if rest[0].Seg != name {
				w.t.Fatalf("named %+v, not %+v, of %+v", rest[0].Seg, name, there)
			}
			contents := w.contents(rest[0])
			got, w.out[move.Stream] = fact.Join(got, contents), fact.Join(w.out[move.Stream], contents)
			there, rest, many = append(there, name), rest[1:], many+1
		}
		if !fact.Same(got, want) {
			w.t.Fatalf("%v has %v, not %v", span, got, want)
		}
	}
	if len(rest) != 0 {
		w.t.Fatalf("too many segments: %+v", rest)
	}
	w.done = append(w.done, t)
}

// contents are the facts of a meta's blob, which must be what the meta says.
func (w *world) contents(m api.Meta) []api.Many {
	w.t.Helper()
	b, code := w.store.Get(m.Blob)
	expectCode(w.t, code, api.OK)
	g, code := segment.Read(b)
	expectCode(w.t, code, api.OK)
	if wire.Sum(b) != m.Sum || g.Rows() != m.Rows || g.Schema() != w.setup.Schema {
		w.t.Fatalf("another blob: %+v", m)
	}
	return g.Facts()
}

// expectOut: just a stream's published facts were published, each once.
func (w *world) expectOut(stream int) {
	w.t.Helper()
	want := w.client[stream][:w.state().Offsets[stream]-w.ahead[stream]]
	if !fact.Same(w.out[stream], fact.Bag(want)) {
		w.t.Fatalf("published %v, not %v", w.out[stream], want)
	}
}

// spansOf are the chunks in which some facts lie, rising.
func spansOf(facts []api.Fact, length int64) []api.Span {
	var spans []api.Span
	for _, f := range facts {
		k := f.Time / length
		spans = append(spans, api.Span{From: k * length, To: min((k+1)*length, most)})
	}
	slices.SortFunc(spans, func(a, b api.Span) int { return cmp.Compare(a.From, b.From) })
	return slices.Compact(spans)
}

// plainName is P19.5's name of a chunk's segment, told by all segments that are there.
func plainName(there []api.Seg, chunk api.Span) api.Seg {
	var ahead *api.Seg
	for _, s := range there {
		if !complete(there, s) || chunk.From < s.Span.From || s.Span.To <= chunk.From {
			continue
		}
		if ahead == nil || goesAhead(s, *ahead) {
			ahead = &s
		}
	}
	name := api.Seg{Span: chunk, Version: 1}
	for _, s := range there {
		switch {
		case ahead != nil && s.Span == ahead.Span && s.Version == ahead.Version && s.Part >= name.Part:
			name = api.Seg{Span: s.Span, Version: s.Version, Core: s.Core, Part: s.Part + 1}
		case ahead == nil && s.Span.From < chunk.To && chunk.From < s.Span.To && s.Version >= name.Version:
			name.Version = s.Version + 1
		}
	}
	if ahead != nil {
		name.Span, name.Version, name.Core = ahead.Span, ahead.Version, ahead.Core
	}
	return name
}

// complete tells whether all parts of a segment's set are there that must be.
func complete(there []api.Seg, of api.Seg) bool {
	for part := range of.Core {
		of.Part = part
		if !slices.Contains(there, of) {
			return false
		}
	}
	return true
}

func goesAhead(a, b api.Seg) bool {
	if a.Version != b.Version {
		return a.Version > b.Version
	}
	if a.Span.From != b.Span.From {
		return a.Span.From > b.Span.From
	}
	return a.Span.To < b.Span.To
}

func expectCode(t *testing.T, got, want api.Errno) {
	t.Helper()
	if got != want {
		t.Fatalf("%d, not %d", got, want)
	}
}

func expectSegs(t *testing.T, got []api.Seg, want ...api.Seg) {
	t.Helper()
	if !slices.Equal(got, want) {
		t.Fatalf("%+v, not %+v", got, want)
	}
}

// expectMsgs holds messages against those that are wanted, in all that they have.
func expectMsgs(t *testing.T, got []api.Msg, want ...api.Msg) {
	t.Helper()
	if !slices.EqualFunc(got, want, alike) {
		t.Fatalf("got %+v, want %+v", got, want)
	}
}

// alike holds messages against each other by what is printed of them, where empty lists are as those that are nil.
func alike(a, b api.Msg) bool {
	return reflect.DeepEqual(a, b) || fmt.Sprintf("%+v", a) == fmt.Sprintf("%+v", b)
}

func expectWaiting(t *testing.T, n *Node, want int) {
	t.Helper()
	if got := n.Waiting(); got != want {
		t.Fatalf("%d wait, not %d", got, want)
	}
}

// have is what a node tells that it serves.
func have(now int, stream int, segs ...api.Seg) api.Msg {
	return api.Msg{Kind: api.MsgHave, From: api.Realtime + stream, To: api.Broker, Count: uint64(now), Segs: segs}
}

// ordinary is a setup with facts of a dimension and a measure, chunks of 10 and batches of 5.
func ordinary() api.Setup {
	return api.Setup{
		Schema: api.Schema{Dims: 1, Meas: 1}, Streams: 2, Stores: 2, Leaders: 1, Chunk: 10, Replicas: 1, Batch: 5,
		Retry: 3, Retention: 9,
	}
}

// rigged is a world with the node of stream 0.
func rigged(t *testing.T, s api.Setup) (*world, *Node) {
	t.Helper()
	w := newWorld(t, s)
	return w, w.node(0)
}

// node is a new node of a stream.
func (w *world) node(stream int) *Node {
	w.t.Helper()
	n, code := New(stream, w.setup, w)
	if code != api.OK || n == nil {
		w.t.Fatal("no node", code)
	}
	// What wasn't published is sent anew.
	w.client[stream] = w.client[stream][:n.Taken()-w.ahead[stream]]
	w.calls = 0
	return n
}

// at is a fact of the ordinary schema that is unlike others of its time by its number.
func at(time int64, number int) api.Fact {
	return api.Fact{Time: time, Dims: []string{string(rune('a' + number%5))}, Meas: []int64{int64(number)}}
}

// take has the node of a stream take facts of these times, each in turn.
func (w *world) take(n *Node, times ...int64) {
	w.t.Helper()
	for _, time := range times {
		w.takeFact(n, at(time, len(w.client[n.stream])))
	}
}

func (w *world) takeFact(n *Node, f api.Fact) {
	w.t.Helper()
	next := n.Taken() + 1
	l := n.Handle(api.Msg{Kind: api.MsgFact, From: api.Client, Offset: next, Fact: f})
	expectMsgs(w.t, l, api.Msg{Kind: api.MsgTake, From: api.Realtime + n.stream, Offset: next})
	w.client[n.stream] = append(w.client[n.stream], f)
}

// sealed has the node take facts and hand them off, by a tick.
func (w *world) sealed(n *Node, now int, times ...int64) []api.Msg {
	w.t.Helper()
	w.take(n, times...)
	n.Seal()
	return n.Tick(now, w, w)
}

// chunkOf is the first segment of a chunk of 10.
func chunkOf(from int64) api.Seg {
	return api.Seg{Span: api.Span{From: from, To: from + 10}, Version: 1}
}

// all is a query that counts all facts, and tells their sums by the dimension.
func all() api.Query {
	return api.Query{
		Span: api.Span{To: most}, Filter: api.Filter{Kind: api.FilterAll}, Sets: [][]int{{0}, {}},
		Aggs: []api.Agg{{Kind: api.AggCount}, {Kind: api.AggSum}}, Groups: 100,
	}
}
