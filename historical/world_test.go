package historical

import (
	"cmp"
	"fmt"
	"maps"
	"reflect"
	"slices"
	"testing"

	"gristmill/api"
	"gristmill/disk"
	"gristmill/engine"
	"gristmill/segment"
	"gristmill/wire"
)

const most = 1 << 40 // the last moment's end

// stream tells numbers that look thrown, the same ones at each run.
type stream uint64

func (s *stream) below(n int) int {
	*s = *s*6364136223846793005 + 1442695040888963407
	return int(uint64(*s) >> 31 % uint64(n))
}

// fault is what becomes of a call: the code that is answered instead, or a panic.
type fault struct {
	code   api.Errno
	panics bool
}

// world is what nodes see of the metadata and of deep storage, and what was published there.
type world struct {
	t     *testing.T
	setup api.Setup
	metas []api.Meta
	blobs map[string][]byte
	facts map[api.Seg][]api.Many // of what was published
	fate  func(call int) fault   // of the calls of State and Get, by their numbers, from 0 on
	calls int
}

func newWorld(t *testing.T, s api.Setup) *world {
	return &world{t: t, setup: s, blobs: map[string][]byte{}, facts: map[api.Seg][]api.Many{}}
}

func (w *world) call() api.Errno {
	call := w.calls
	w.calls++
	if w.fate == nil {
		return api.OK
	}
	f := w.fate(call)
	if f.panics {
		panic("away")
	}
	return f.code
}

// State tells, beside an error, what it must not be asked for.
func (w *world) State() (api.State, api.Errno) {
	return api.State{Epoch: 3, Metas: w.metas, Offsets: make([]uint64, w.setup.Streams)}, w.call()
}

func (w *world) Get(name string) ([]byte, api.Errno) {
	if code := w.call(); code != api.OK {
		return w.blobs[name], code
	}
	b, there := w.blobs[name]
	if !there {
		return nil, api.ErrNone
	}
	return b, api.OK
}

func (w *world) Do(api.Txn) (api.State, api.Errno) {
	w.t.Error("a historical node changes no metadata")
	return api.State{}, api.ErrPower
}

func (w *world) Elect(int) (api.State, api.Errno) {
	w.t.Error("a historical node elects nobody")
	return api.State{}, api.ErrPower
}

func (w *world) Put(string, []byte) api.Errno {
	w.t.Error("a historical node puts nothing into deep storage")
	return api.ErrPower
}

func (w *world) Delete(string) api.Errno {
	w.t.Error("a historical node deletes nothing from deep storage")
	return api.ErrPower
}

func (w *world) List() ([]string, api.Errno) { return slices.Sorted(maps.Keys(w.blobs)), w.call() }

// ordinary is a setup with facts of a dimension and a measure.
func ordinary() api.Setup {
	return api.Setup{
		Schema: api.Schema{Dims: 1, Meas: 1}, Streams: 2, Stores: 3, Leaders: 2, Chunk: 10, Replicas: 1, Batch: 5,
		Retry: 3, Retention: 9,
	}
}

func seg(from, to int64, version, part, core int) api.Seg {
	return api.Seg{Span: api.Span{From: from, To: to}, Version: version, Part: part, Core: core}
}

// chunkOf is the first segment of a chunk of 10.
func chunkOf(from int64) api.Seg { return seg(from, from+10, 1, 0, 0) }

// factsOf are facts of a schema, in a segment's span as far as times may be there, unlike those of other segments.
func factsOf(c api.Schema, s api.Seg) []api.Many {
	var l []api.Many
	for k := range int64(5) {
		time := min(max(0, s.Span.From), most-9) + 2*k
		f := api.Fact{Time: time, Dims: make([]string, c.Dims), Meas: make([]int64, c.Meas)}
		for at := range f.Dims {
			f.Dims[at] = string(rune('a' + (k+int64(at))%3))
		}
		for at := range f.Meas {
			f.Meas[at] = 10*k + int64(s.Version)*1000 + int64(s.Part)*100000 + int64(at)
		}
		l = append(l, api.Many{Fact: f, N: uint64(k%2) + 1})
	}
	return l
}

// bytesOf are facts as a segment's bytes.
func bytesOf(t *testing.T, c api.Schema, facts []api.Many) []byte {
	t.Helper()
	b, code := segment.Build(c, facts)
	expectCode(t, code, api.OK)
	return b
}

// metaOf is how bytes are published.
func metaOf(s api.Seg, b []byte, rows int) api.Meta {
	return api.Meta{Seg: s, Blob: fmt.Sprintf("x%d.%d.%d.%d.%d", s.Span.From, s.Span.To, s.Version, s.Part, s.Core), Sum: wire.Sum(b), Rows: rows}
}

// publish puts segments into deep storage and into the metadata.
func (w *world) publish(segs ...api.Seg) {
	w.t.Helper()
	for _, s := range segs {
		facts := factsOf(w.setup.Schema, s)
		b := bytesOf(w.t, w.setup.Schema, facts)
		w.metas = append(w.metas, metaOf(s, b, len(facts)))
		w.blobs[w.meta(s).Blob] = b
		w.facts[s] = facts
	}
}

// meta is a segment's in the metadata.
func (w *world) meta(s api.Seg) *api.Meta {
	w.t.Helper()
	at := slices.IndexFunc(w.metas, func(m api.Meta) bool { return m.Seg == s })
	if at < 0 {
		w.t.Fatalf("not published: %+v", s)
	}
	return &w.metas[at]
}

// retract takes segments out of the metadata and out of deep storage.
func (w *world) retract(segs ...api.Seg) {
	w.t.Helper()
	for _, s := range segs {
		delete(w.blobs, w.meta(s).Blob)
		w.metas = slices.DeleteFunc(w.metas, func(m api.Meta) bool { return m.Seg == s })
	}
}

// node is a new node of the first number, on a disk.
func (w *world) node(d *disk.Disk) *Node {
	w.t.Helper()
	n, code := New(api.Store, w.setup, d)
	expectCode(w.t, code, api.OK)
	if n == nil {
		w.t.Fatal("no node")
	}
	return n
}

// rigged is a world, an empty disk, and the first historical node on it.
func rigged(t *testing.T, s api.Setup) (*world, *disk.Disk, *Node) {
	t.Helper()
	w, d := newWorld(t, s), disk.New()
	return w, d, w.node(d)
}

// serving is a world in which these were published, and a node that serves them, told at the tick 1.
func serving(t *testing.T, segs ...api.Seg) (*world, *disk.Disk, *Node) {
	t.Helper()
	w, d, n := rigged(t, ordinary())
	w.publish(segs...)
	for _, s := range segs {
		tell(t, n, toLoad(1, s))
	}
	n.Tick(1, w, w)
	expectServed(t, n, segs...)
	return w, d, n
}

func toLoad(term int, s api.Seg) api.Msg {
	return api.Msg{Kind: api.MsgOrder, From: api.Leader, To: api.Store, Id: 8, Term: term, Order: api.Order{Seg: s, Node: api.Store}}
}

func toDrop(term int, s api.Seg) api.Msg {
	m := toLoad(term, s)
	m.Order.Drop = true
	return m
}

// tell hands messages over that are answered by nothing.
func tell(t *testing.T, n *Node, l ...api.Msg) {
	t.Helper()
	for _, m := range l {
		expectMsgs(t, n.Handle(m))
	}
}

// haves are what a node of the world's setup tells of what it serves.
func (w *world) haves(now int, segs ...api.Seg) []api.Msg {
	var l []api.Msg
	for to := 1; to < 62; to++ {
		if to <= w.setup.Streams || 41 <= to && to < 41+w.setup.Leaders || to == 61 {
			l = append(l, api.Msg{Kind: api.MsgHave, From: api.Store, To: to, Count: uint64(now), Segs: segs})
		}
	}
	return l
}

// all is a query that counts all facts, and tells their sums by the dimension.
func all() api.Query {
	return api.Query{
		Span: api.Span{To: most}, Filter: api.Filter{Kind: api.FilterAll}, Sets: [][]int{{0}, {}},
		Aggs: []api.Agg{{Kind: api.AggCount}, {Kind: api.AggSum}}, Groups: 100,
	}
}

// asked is a broker's question, with more that has no meaning in it.
func asked(q api.Query, p api.Piece) api.Msg {
	return api.Msg{
		Kind: api.MsgAsk, From: 77, To: 88, Id: 5, Ask: 1 << 63, Offset: 9, Term: 3, Count: 4, Code: 6, Query: q, Piece: p,
		Order: api.Order{Seg: p.Seg, Node: api.Store}, Segs: []api.Seg{p.Seg}, Groups: []api.Group{{}},
	}
}

func whole(s api.Seg) api.Piece { return api.Piece{Seg: s, Span: s.Span} }

// expectPiece asks, and expects the groups of just those facts of a piece that are within its span.
func expectPiece(t *testing.T, n *Node, q api.Query, p api.Piece, facts []api.Many) {
	t.Helper()
	groups, err := engine.Plain(ordinary().Schema, q, facts, p.Span)
	if err != nil {
		t.Fatal(err)
	}
	expectMsgs(t, n.Handle(asked(q, p)), api.Msg{Kind: api.MsgPart, From: api.Store, To: 77, Ask: 1 << 63, Groups: groups})
}

// expectNoPiece asks, and expects a code and nothing else.
func expectNoPiece(t *testing.T, n *Node, q api.Query, p api.Piece, code api.Errno) {
	t.Helper()
	expectMsgs(t, n.Handle(asked(q, p)), api.Msg{Kind: api.MsgPart, From: api.Store, To: 77, Ask: 1 << 63, Code: code})
}

// expectJust: of all that was published ever just these segments are served, in their order, with the very facts.
func (w *world) expectJust(n *Node, segs ...api.Seg) {
	w.t.Helper()
	expectServed(w.t, n, segs...)
	for s, facts := range w.facts {
		if slices.Contains(segs, s) {
			expectPiece(w.t, n, all(), api.Piece{Seg: s, Span: api.Span{To: most}}, facts)
		} else {
			expectNoPiece(w.t, n, all(), whole(s), api.ErrNone)
		}
	}
}

// expectStopped: the node answers nothing any more.
func (w *world) expectStopped(n *Node) {
	w.t.Helper()
	for s := range w.facts {
		expectMsgs(w.t, n.Handle(asked(all(), whole(s))))
		tell(w.t, n, toLoad(99, s), toDrop(99, s))
	}
	expectMsgs(w.t, n.Handle(asked(all(), whole(chunkOf(most)))))
	for now := 100; now < 2000; now += 500 {
		expectMsgs(w.t, n.Tick(now, w, w))
	}
	if n.Term() != 0 || n.Waiting() != 0 || len(n.Served()) != 0 {
		w.t.Fatal("not nothing", n.Term(), n.Waiting(), n.Served())
	}
}

func expectServed(t *testing.T, n *Node, want ...api.Seg) {
	t.Helper()
	if got := n.Served(); !slices.Equal(got, sorted(want)) {
		t.Fatalf("served %+v, not %+v", got, sorted(want))
	}
}

// sorted are segments by their Spans, Versions, Parts.
func sorted(segs []api.Seg) []api.Seg {
	return slices.SortedStableFunc(slices.Values(segs), func(a, b api.Seg) int {
		if a.Span.From != b.Span.From {
			return cmp.Compare(a.Span.From, b.Span.From)
		}
		if a.Span.To != b.Span.To {
			return cmp.Compare(a.Span.To, b.Span.To)
		}
		if a.Version != b.Version {
			return cmp.Compare(a.Version, b.Version)
		}
		return cmp.Compare(a.Part, b.Part)
	})
}

func expectWaiting(t *testing.T, n *Node, want int) {
	t.Helper()
	if got := n.Waiting(); got != want {
		t.Fatalf("%d wait, not %d", got, want)
	}
}

func expectTerm(t *testing.T, n *Node, want int) {
	t.Helper()
	if got := n.Term(); got != want {
		t.Fatalf("Term %d, not %d", got, want)
	}
}

func expectCode(t *testing.T, got, want api.Errno) {
	t.Helper()
	if got != want {
		t.Fatalf("%d, not %d", got, want)
	}
}

// expectMsgs holds messages against those that are wanted, in all that they have.
func expectMsgs(t *testing.T, got []api.Msg, want ...api.Msg) {
	t.Helper()
	if !slices.EqualFunc(got, want, alike) {
		t.Fatalf("got %+v, want %+v", got, want)
	}
}

// alike holds messages against each other by what is printed of them, where empty lists are as those that are nil.
func alike(a, b api.Msg) bool {
	return reflect.DeepEqual(a, b) || fmt.Sprintf("%+v", a) == fmt.Sprintf("%+v", b)
}

// rise cuts a disk's power on and off again behind it; a node that is there isn't told.
func rise(d *disk.Disk, part int) {
	d.CutAt(-1, 0)
	d.Cut(part)
	d.On()
}
