package historical

import (
	"slices"
	"testing"

	"gristmill/api"
	"gristmill/disk"
)

func spoilSegs(segs []api.Seg) {
	for at := range segs {
		segs[at] = seg(7, 8, 9, 10, 11)
	}
	_ = append(segs, seg(1, 2, 3, 4, 5))
}

// spoilMsgs changes all that messages reach.
func spoilMsgs(l []api.Msg) {
	for at := range l {
		m := &l[at]
		spoilSegs(m.Segs)
		for g := range m.Groups {
			for d := range m.Groups[g].Key.Dims {
				m.Groups[g].Key.Dims[d] = "spoilt"
			}
			for p := range m.Groups[g].Parts {
				clear(m.Groups[g].Parts[p].Texts)
				m.Groups[g].Parts[p] = api.Partial{N: 1, V: -5}
			}
			m.Groups[g] = api.Group{}
		}
		*m = api.Msg{}
	}
	_ = append(l, api.Msg{Kind: 5})
}

// TestAnswered: rule 3, whoever changes what is answered changes nothing else, and no other list of the answer.
func TestAnswered(t *testing.T) {
	w, d, n := serving(t, chunkOf(0), chunkOf(10))
	for range 2 {
		for _, q := range queries() {
			spoilMsgs(n.Handle(asked(q, whole(chunkOf(0)))))
			second := n.Handle(asked(q, whole(chunkOf(0))))
			spoilMsgs(n.Handle(asked(q, whole(chunkOf(0)))))
			expectPiece(t, n, q, whole(chunkOf(0)), w.facts[chunkOf(0)])
			expectMsgs(t, second, n.Handle(asked(q, whole(chunkOf(0))))...)
		}
		spoilSegs(n.Served())
		expectServed(t, n, chunkOf(0), chunkOf(10))
		n = w.node(d)
	}
	l := n.Tick(1, w, w)
	want := w.haves(1, chunkOf(0), chunkOf(10))
	for at := range l {
		spoilSegs(l[at].Segs)
		expectMsgs(t, l[at+1:], want[at+1:]...)
	}
	expectServed(t, n, chunkOf(0), chunkOf(10))
	spoilMsgs(n.Tick(4, w, w))
	expectMsgs(t, n.Tick(7, w, w), w.haves(7, chunkOf(0), chunkOf(10))...)
	w.expectJust(n, chunkOf(0), chunkOf(10))
}

// TestServedNoRoom: rule 3, what is behind a list that is answered is nobody's.
func TestServedNoRoom(t *testing.T) {
	w, _, n := serving(t, chunkOf(0), chunkOf(10))
	tell(t, n, toDrop(1, chunkOf(10)))
	served := n.Served()
	n.Tick(2, w, w)
	if !slices.Equal(served, []api.Seg{chunkOf(0), chunkOf(10)}) {
		t.Fatal("changed", served)
	}
	_ = append(n.Served(), chunkOf(70))
	tell(t, n, toLoad(1, chunkOf(10)))
	n.Tick(3, w, w)
	w.expectJust(n, chunkOf(0), chunkOf(10))
}

// TestHandedIn: rule 3, messages that are handed in aren't changed, and not kept.
func TestHandedIn(t *testing.T) {
	w, _, n := serving(t, chunkOf(0))
	q := all()
	q.Sets, q.Aggs = append(make([][]int, 0, 9), q.Sets...), append(make([]api.Agg, 0, 9), q.Aggs...)
	q.Filter = api.Filter{Kind: api.FilterIs, Texts: append(make([]string, 0, 9), "b", "a")}
	m, want := asked(q, whole(chunkOf(0))), asked(all(), whole(chunkOf(0)))
	want.Query.Filter = api.Filter{Kind: api.FilterIs, Texts: []string{"b", "a"}}
	l := n.Handle(m)
	expectMsgs(t, []api.Msg{m}, want)
	clear(m.Query.Filter.Texts)
	clear(m.Query.Sets)
	clear(m.Query.Aggs)
	expectMsgs(t, l, n.Handle(want)...)
	w.publish(chunkOf(10), chunkOf(20))
	order := toLoad(1, chunkOf(10))
	tell(t, n, order)
	order.Order.Seg = chunkOf(20)
	n.Tick(2, w, w)
	w.expectJust(n, chunkOf(0), chunkOf(10))
}

// TestBytesAreTheirs: rule 3, P20.6, what the book and deep storage tell isn't changed, and isn't kept: they may change it later.
func TestBytesAreTheirs(t *testing.T) {
	w, d, n := rigged(t, ordinary())
	w.publish(chunkOf(0), chunkOf(10))
	w.metas = append(make([]api.Meta, 0, 50), w.metas...)
	name := w.meta(chunkOf(0)).Blob
	b := append(make([]byte, 0, 4096), w.blobs[name]...)
	w.blobs[name] = b
	metas, good := slices.Clone(w.metas), slices.Clone(b)
	tell(t, n, toLoad(1, chunkOf(0)))
	n.Tick(1, w, w)
	if !slices.Equal(metas, w.metas) || w.metas[:3][2] != (api.Meta{}) || !slices.Equal(b, good) || b[:len(b)+1][len(b)] != 0 {
		t.Fatal("changed")
	}
	clear(b)
	clear(w.metas)
	w.expectJust(n, chunkOf(0))
	n.Tick(5, w, w)
	w.expectJust(n, chunkOf(0))
	rise(d, 0)
	w.expectJust(w.node(d), chunkOf(0))
}

// TestSetupIsOwn: a setup that is changed behind New changes nothing.
func TestSetupIsOwn(t *testing.T) {
	w := newWorld(t, ordinary())
	s := ordinary()
	n, code := New(api.Store, s, disk.New())
	expectCode(t, code, api.OK)
	s.Streams, s.Leaders, s.Retry, s.Schema = 8, 16, 1, api.Schema{}
	expectMsgs(t, n.Tick(1, w, w), w.haves(1)...)
	expectMsgs(t, n.Tick(2, w, w))
}
