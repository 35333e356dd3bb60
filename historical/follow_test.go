package historical

import (
	"slices"
	"testing"

	"gristmill/api"
	"gristmill/blob"
	"gristmill/disk"
	"gristmill/metalog"
)

// plain is what a node is to be, by what was done to it, as the document's words have it.
type plain struct {
	served []api.Seg
	orders []api.Order
	term   int
	ticked bool
	toldAt int
}

func (p *plain) order(m api.Msg) {
	if m.Term < p.term || m.Order.Node != api.Store {
		return
	}
	p.term = m.Term
	if !slices.Contains(p.orders, m.Order) {
		p.orders = append(p.orders, m.Order)
	}
}

// tick is what is told at a tick at which those were there, or not; what there is of a segment tells there.
func (p *plain) tick(w *world, now int, book, deep bool, there func(s api.Seg) bool) []api.Msg {
	changed := false
	for len(p.orders) > 0 {
		o := p.orders[0]
		at := slices.Index(p.served, o.Seg)
		published := slices.ContainsFunc(w.metas, func(m api.Meta) bool { return m.Seg == o.Seg })
		switch {
		case o.Drop && at >= 0:
			p.served, changed = slices.Delete(p.served, at, at+1), true
		case o.Drop || at >= 0:
		case !book || published && !deep || published && !there(o.Seg):
			return p.tells(w, now, changed)
		case published:
			p.served, changed = append(p.served, o.Seg), true
		}
		p.orders = p.orders[1:]
	}
	return p.tells(w, now, changed)
}

func (p *plain) tells(w *world, now int, changed bool) []api.Msg {
	if p.ticked && !changed && now-p.toldAt < w.setup.Retry {
		return nil
	}
	p.ticked, p.toldAt = true, now
	return w.haves(now, sorted(p.served)...)
}

// TestThrown: P20.1 to P20.6, orders, ticks, questions and crashes one behind the other, with others that are away, and metas and blobs that come and go, against what the document's words say.
func TestThrown(t *testing.T) {
	for seed := range 80 {
		thrown := stream(seed)
		s := ordinary()
		s.Retry = 1 + thrown.below(5)
		w, d, n := rigged(t, s)
		segs := []api.Seg{chunkOf(0), seg(0, 10, 1, 1, 0), seg(0, 10, 2, 0, 1), chunkOf(10), seg(0, 20, 3, 0, 2), chunkOf(40)}
		w.publish(segs...)
		published, blobs := slices.Clone(w.metas), w.blobs
		p := &plain{}
		for now := 1; now < 120; now++ {
			for range thrown.below(4) {
				m := toLoad(max(0, p.term+thrown.below(5)-3), segs[thrown.below(len(segs))])
				m.Order.Drop = thrown.below(5) < 2
				m.Order.Node += thrown.below(8) / 7
				p.order(m)
				tell(t, n, m)
			}
			if thrown.below(12) == 0 {
				rise(d, thrown.below(99))
				n, p = w.node(d), &plain{served: p.served}
			}
			// The last meta and the last blob come and go.
			w.metas = published[:len(published)-thrown.below(2)]
			w.blobs = map[string][]byte{}
			hidden := thrown.below(3)
			for k, m := range published {
				if hidden != 0 || k != len(published)-2 {
					w.blobs[m.Blob] = blobs[m.Blob]
				}
			}
			book, deep := thrown.below(6) > 0, thrown.below(6) > 0
			want := p.tick(w, now, book, deep, func(s api.Seg) bool {
				_, there := w.blobs[w.meta(s).Blob]
				return there
			})
			expectMsgs(t, w.tickOf(n, now, book, deep), want...)
			expectWaiting(t, n, len(p.orders))
			expectTerm(t, n, p.term)
			w.expectJust(n, p.served...)
		}
	}
}

// tickOf is a tick with those that are there.
func (w *world) tickOf(n *Node, now int, book, deep bool) []api.Msg {
	var b, d *world = failing(w, api.ErrPower), failing(w, api.ErrPower)
	if book {
		b = w
	}
	if deep {
		d = w
	}
	return n.Tick(now, b, d)
}

// real is the metadata and deep storage on disks of their own, as nodes see them.
type real struct {
	*metalog.Log
	*blob.Store
	deep *disk.Disk
}

func (r *real) State() (api.State, api.Errno) { return r.Log.State(), api.OK }

func (r *real) List() ([]string, api.Errno) { return r.Store.List(), api.OK }

// realOf has what was published in a world.
func realOf(t *testing.T, w *world) *real {
	t.Helper()
	r := &real{deep: disk.New()}
	var code api.Errno
	r.Log, code = metalog.Open(disk.New(), w.setup.Streams)
	expectCode(t, code, api.OK)
	r.Store, code = blob.Open(r.deep)
	expectCode(t, code, api.OK)
	for name, b := range w.blobs {
		expectCode(t, r.Put(name, b), api.OK)
	}
	_, code = r.Do(api.Txn{Add: w.metas})
	expectCode(t, code, api.OK)
	return r
}

// TestReal: P20.4, P20.6, with a metalog and a blob store: their power goes off, a blob is spoilt, a blob is deleted.
func TestReal(t *testing.T) {
	w, d, n := rigged(t, ordinary())
	segs := []api.Seg{chunkOf(0), chunkOf(10), chunkOf(20), chunkOf(30)}
	w.publish(segs...)
	r := realOf(t, w)
	for _, s := range segs {
		tell(t, n, toLoad(1, s))
	}
	r.deep.Cut(0)
	expectMsgs(t, n.Tick(1, r, r), w.haves(1)...)
	expectWaiting(t, n, 4)
	r.deep.On()
	spoiltFile := "b." + w.meta(chunkOf(10)).Blob
	write(t, r.deep, spoiltFile, []byte("spoilt"))
	expectCode(t, r.Delete(w.meta(chunkOf(30)).Blob), api.OK)
	expectMsgs(t, n.Tick(2, r, r), w.haves(2, chunkOf(0), chunkOf(20))...)
	expectWaiting(t, n, 1)
	w.expectJust(n, chunkOf(0), chunkOf(20))
	expectCode(t, r.Put(w.meta(chunkOf(30)).Blob, w.blobs[w.meta(chunkOf(30)).Blob]), api.OK)
	expectCode(t, r.Delete(w.meta(chunkOf(10)).Blob), api.OK)
	expectCode(t, r.Put(w.meta(chunkOf(10)).Blob, w.blobs[w.meta(chunkOf(10)).Blob]), api.OK)
	tell(t, n, toLoad(2, chunkOf(10)))
	expectMsgs(t, n.Tick(3, r, r), w.haves(3, segs...)...)
	w.expectJust(n, segs...)
	w.expectJust(w.node(d), segs...)
	// A segment that went out of the metadata is served till it is to be dropped.
	_, code := r.Do(api.Txn{Epoch: 1, Drop: segs[:2]})
	expectCode(t, code, api.OK)
	expectMsgs(t, n.Tick(4, r, r))
	w.expectJust(n, segs...)
	tell(t, n, toDrop(2, segs[0]), toDrop(2, segs[1]), toLoad(2, segs[0]))
	expectMsgs(t, n.Tick(5, r, r), w.haves(5, segs[2:]...)...)
	w.expectJust(n, segs[2:]...)
}
