package coordinator

import (
	"fmt"
	"reflect"
	"slices"
	"testing"

	"gristmill/api"
	"gristmill/blob"
	"gristmill/disk"
	"gristmill/fact"
	"gristmill/metalog"
	"gristmill/segment"
	"gristmill/wire"
)

const most = 1 << 40 // the last moment's end

// stream tells numbers that look thrown, the same ones at each run.
type stream uint64

func (s *stream) below(n int) int {
	*s = *s*6364136223846793005 + 1442695040888963407
	return int(uint64(*s) >> 31 % uint64(n))
}

// fault is what becomes of a call.
type fault struct {
	code    api.Errno // is answered, if it isn't OK
	unheard bool      // it is done all the same
	panics  bool
}

var (
	lost    = fault{code: api.ErrPower}
	unheard = fault{code: api.ErrPower, unheard: true}
)

// world is what nodes see: the metadata and deep storage, on disks.
type world struct {
	t     *testing.T
	setup api.Setup
	disks [2]*disk.Disk // the metadata's, deep storage's
	log   *metalog.Log
	store *blob.Store
	fate  func(call string) fault // of the nodes' calls, by their names
	calls []string                // that nodes made, by their names, and those of the blobs
	txns  []api.Txn               // that nodes asked for
	ahead func()                  // what others do ahead of each Do
}

func newWorld(t *testing.T, s api.Setup) *world {
	t.Helper()
	w := &world{t: t, setup: s, disks: [2]*disk.Disk{disk.New(), disk.New()}}
	w.open()
	return w
}

// open opens the metadata and deep storage, as the disks have them.
func (w *world) open() {
	w.t.Helper()
	var code api.Errno
	for _, d := range w.disks {
		d.CutAt(-1, 0)
		d.On()
	}
	w.log, code = metalog.Open(w.disks[0], w.setup.Streams)
	expectCode(w.t, code, api.OK)
	w.store, code = blob.Open(w.disks[1])
	expectCode(w.t, code, api.OK)
}

// call does a call, or doesn't.
func (w *world) call(name, blob string, do func() api.Errno) api.Errno {
	w.calls = append(w.calls, name+blob)
	now := fault{}
	if w.fate != nil {
		now = w.fate(name)
	}
	if now.panics {
		panic("away")
	}
	if now.code != api.OK && !now.unheard {
		return now.code
	}
	code := do()
	if now.code != api.OK {
		return now.code
	}
	return code
}

// State tells, beside an error, what it must not be asked for; so do the others.
func (w *world) State() (state api.State, code api.Errno) {
	state = w.log.State()
	code = w.call("State", "", func() api.Errno {
		if w.disks[0].Off() {
			return api.ErrPower
		}
		return api.OK
	})
	return state, code
}

func (w *world) Do(t api.Txn) (api.State, api.Errno) {
	if w.ahead != nil {
		w.ahead()
	}
	w.txns = append(w.txns, t)
	code := w.call("Do", "", func() (code api.Errno) {
		_, code = w.log.Do(t)
		return code
	})
	return w.log.State(), code
}

func (w *world) Elect(node int) (api.State, api.Errno) {
	code := w.call("Elect", "", func() (code api.Errno) {
		_, code = w.log.Elect(node)
		return code
	})
	return w.log.State(), code
}

func (w *world) Put(name string, b []byte) api.Errno {
	return w.call("Put ", name, func() api.Errno { return w.store.Put(name, b) })
}

func (w *world) Get(name string) (b []byte, code api.Errno) {
	code = w.call("Get ", name, func() (code api.Errno) {
		b, code = w.store.Get(name)
		return code
	})
	return b, code
}

func (w *world) Delete(name string) api.Errno {
	return w.call("Delete ", name, func() api.Errno { return w.store.Delete(name) })
}

func (w *world) List() ([]string, api.Errno) {
	return w.store.List(), w.call("List", "", func() api.Errno {
		if w.disks[1].Off() {
			return api.ErrPower
		}
		return api.OK
	})
}

// ordinary is a setup with facts of a dimension and a measure.
func ordinary() api.Setup {
	return api.Setup{
		Schema: api.Schema{Dims: 1, Meas: 1}, Streams: 2, Stores: 3, Leaders: 2, Chunk: 10, Replicas: 1, Batch: 5,
		Retry: 2, Retention: 4,
	}
}

func seg(from, to int64, version, part, core int) api.Seg {
	return api.Seg{Span: api.Span{From: from, To: to}, Version: version, Part: part, Core: core}
}

func span(from, to int64) api.Span { return api.Span{From: from, To: to} }

// chunkOf is the first segment of a chunk of 10.
func chunkOf(from int64) api.Seg { return seg(from, from+10, 1, 0, 0) }

// factsOf are facts of a segment, one of each third moment of its span, unlike those of other segments.
func factsOf(s api.Seg) []api.Many {
	var l []api.Many
	for time := s.Span.From; time < min(s.Span.To, s.Span.From+40); time += 3 {
		f := api.Fact{
			Time: time, Dims: []string{fmt.Sprintf("%d-%d", s.Span.From, s.Span.To)},
			Meas: []int64{int64(s.Version*1000 + s.Part)},
		}
		l = append(l, api.Many{Fact: f, N: uint64(time%2) + 1})
	}
	return l
}

// nameOf is the blob of a segment that others published.
func nameOf(s api.Seg) string {
	return fmt.Sprintf("x%d.%d.%d.%d", s.Span.From, s.Span.To, s.Version, s.Part)
}

// published is how bytes are published.
func published(s api.Seg, b []byte, rows int) api.Meta {
	return api.Meta{Seg: s, Blob: nameOf(s), Sum: wire.Sum(b), Rows: rows}
}

// publish has others publish segments, each with facts of its own.
func (w *world) publish(segs ...api.Seg) {
	w.t.Helper()
	for _, s := range segs {
		w.publishAs(s, factsOf(s))
	}
}

func (w *world) publishAs(s api.Seg, facts []api.Many) {
	w.t.Helper()
	b, code := segment.Build(w.setup.Schema, facts)
	expectCode(w.t, code, api.OK)
	m := published(s, b, len(fact.Join(facts, nil)))
	expectCode(w.t, w.store.Put(m.Blob, b), api.OK)
	w.do(api.Txn{Add: []api.Meta{m}})
}

// retract has others take segments out of the metadata.
func (w *world) retract(segs ...api.Seg) { w.do(api.Txn{Drop: segs}) }

// do has others do a transaction.
func (w *world) do(t api.Txn) {
	w.t.Helper()
	t.Epoch = w.log.State().Epoch
	_, code := w.log.Do(t)
	expectCode(w.t, code, api.OK)
}

// put has others put a blob of no meta.
func (w *world) put(names ...string) {
	w.t.Helper()
	for _, name := range names {
		expectCode(w.t, w.store.Put(name, []byte(name)), api.OK)
	}
}

// spoil writes into a blob's file.
func (w *world) spoil(name, contents string) {
	w.t.Helper()
	expectCode(w.t, w.disks[1].Remove("b."+name), api.OK)
	expectCode(w.t, w.disks[1].Append("b."+name, []byte(contents)), api.OK)
	expectCode(w.t, w.disks[1].Sync("b."+name), api.OK)
}

// segs are those of the metadata.
func (w *world) segs() []api.Seg {
	var l []api.Seg
	for _, m := range w.log.State().Metas {
		l = append(l, m.Seg)
	}
	return l
}

// meta is a segment's in the metadata.
func (w *world) meta(s api.Seg) api.Meta {
	w.t.Helper()
	metas := w.log.State().Metas
	at := slices.IndexFunc(metas, func(m api.Meta) bool { return m.Seg == s })
	if at < 0 {
		w.t.Fatalf("not published: %+v", s)
	}
	return metas[at]
}

// contents are the facts of a segment's blob, which must be what its meta says.
func (w *world) contents(m api.Meta) []api.Many {
	w.t.Helper()
	b, code := w.store.Get(m.Blob)
	expectCode(w.t, code, api.OK)
	g, code := segment.Read(b)
	expectCode(w.t, code, api.OK)
	if wire.Sum(b) != m.Sum || g.Rows() != m.Rows || g.Schema() != w.setup.Schema {
		w.t.Fatalf("another blob: %+v", m)
	}
	return g.Facts()
}

// counting is a segment of the set that counts at a moment, told by all segments that are there.
func counting(there []api.Seg, time int64) (ahead api.Seg, some bool) {
	for _, s := range there {
		if time < s.Span.From || s.Span.To <= time || !complete(there, s) {
			continue
		}
		if !some || goesAhead(s, ahead) {
			ahead, some = s, true
		}
	}
	return ahead, some
}

// complete tells whether all parts of a segment's set are there that must be.
func complete(there []api.Seg, of api.Seg) bool {
	for part := range of.Core {
		of.Part = part
		if !slices.Contains(there, of) {
			return false
		}
	}
	return true
}

func goesAhead(a, b api.Seg) bool {
	if a.Version != b.Version {
		return a.Version > b.Version
	}
	if a.Span.From != b.Span.From {
		return a.Span.From > b.Span.From
	}
	return a.Span.To < b.Span.To
}

func sameSet(a, b api.Seg) bool { return a.Span == b.Span && a.Version == b.Version }

// end is behind all moments that are looked at one by one.
const end = 60

// facts are those of all spans, moment by moment.
func (w *world) facts() [end][]api.Many {
	w.t.Helper()
	var facts [end][]api.Many
	there := w.segs()
	for _, m := range w.log.State().Metas {
		var contents []api.Many
		read := false
		for time := range int64(end) {
			if s, some := counting(there, time); some && sameSet(s, m.Seg) {
				if !read {
					contents, read = w.contents(m), true
				}
				facts[time] = fact.Join(facts[time], fact.Within(contents, span(time, time+1)))
			}
		}
	}
	return facts
}

// expectFacts: at each moment there are these facts, but for those that were wiped.
func (w *world) expectFacts(want [end][]api.Many, wiped ...api.Span) {
	w.t.Helper()
	for time, got := range w.facts() {
		for _, s := range wiped {
			want[time] = fact.Without(want[time], s)
		}
		if !fact.Same(got, want[time]) {
			w.t.Fatalf("at %d there is %v, not %v", time, got, want[time])
		}
	}
}

// node is a new node of a number.
func (w *world) node(id int) *Node {
	w.t.Helper()
	n, code := New(id, w.setup)
	expectCode(w.t, code, api.OK)
	if n == nil {
		w.t.Fatal("no node")
	}
	return n
}

// rigged is a world, and the first coordinator, that leads it.
func rigged(t *testing.T, s api.Setup) (*world, *Node) {
	t.Helper()
	w := newWorld(t, s)
	n := w.node(api.Leader)
	expectCode(t, n.Elect(w), api.OK)
	w.calls = nil
	return w, n
}

// have is what a historical node tells that it has, with more that has no meaning in it.
func have(node int, count uint64, segs ...api.Seg) api.Msg {
	return api.Msg{
		Kind: api.MsgHave, From: node, To: 99, Id: 5, Ask: 6, Offset: 7, Term: 88, Count: count, Code: 3, Segs: segs,
		Order: api.Order{Seg: chunkOf(70), Node: node}, Groups: []api.Group{{}},
	}
}

// tell hands messages over.
func tell(n *Node, l ...api.Msg) {
	for _, m := range l {
		n.Handle(m)
	}
}

func load(s api.Seg, node int) api.Order { return api.Order{Seg: s, Node: node} }

func drop(s api.Seg, node int) api.Order { return api.Order{Drop: true, Seg: s, Node: node} }

// expectOrders: just these orders are sent, in this order.
func expectOrders(t *testing.T, got []api.Msg, from, term int, want ...api.Order) {
	t.Helper()
	var msgs []api.Msg
	for _, o := range want {
		msgs = append(msgs, api.Msg{Kind: api.MsgOrder, From: from, To: o.Node, Term: term, Order: o})
	}
	if len(got) != len(msgs) || len(got) > 0 && !reflect.DeepEqual(got, msgs) {
		t.Fatalf("sent %+v, not %+v", got, msgs)
	}
}

// expectTick lets the first coordinator go on, as it leads a term, and expects its orders.
func (w *world) expectTick(n *Node, now int, want ...api.Order) {
	w.t.Helper()
	l := n.Tick(now, w, w)
	expectOrders(w.t, l, n.id, n.Term(), want...)
}

func expectTerm(t *testing.T, n *Node, want int) {
	t.Helper()
	if got := n.Term(); got != want {
		t.Fatalf("Term %d, not %d", got, want)
	}
}

func expectCode(t *testing.T, got, want api.Errno) {
	t.Helper()
	if got != want {
		t.Fatalf("%d, not %d", got, want)
	}
}

// expectSegs: just these are in the metadata.
func (w *world) expectSegs(want ...api.Seg) {
	w.t.Helper()
	got := w.segs()
	if len(got) != len(want) || slices.ContainsFunc(want, func(s api.Seg) bool { return !slices.Contains(got, s) }) {
		w.t.Fatalf("there is %+v, not %+v", got, want)
	}
}

// expectBlobs: just these are in deep storage.
func (w *world) expectBlobs(want ...string) {
	w.t.Helper()
	if got := w.store.List(); !slices.Equal(got, slices.Sorted(slices.Values(want))) {
		w.t.Fatalf("there is %q, not %q", got, want)
	}
}

// expectCalls: just these calls were made since they were asked last.
func (w *world) expectCalls(want ...string) {
	w.t.Helper()
	if !slices.Equal(w.calls, want) {
		w.t.Fatalf("called %q, not %q", w.calls, want)
	}
	w.calls = nil
}
