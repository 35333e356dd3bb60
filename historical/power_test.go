package historical

import (
	"slices"
	"testing"

	"gristmill/api"
	"gristmill/disk"
)

// script is orders, tick by tick, that have something to do with each other.
func script() [][]api.Msg {
	a, b, c := chunkOf(0), chunkOf(10), seg(0, 10, 2, 0, 1)
	return [][]api.Msg{
		{toLoad(1, a)},
		{},
		{toLoad(1, b), toDrop(1, a), toLoad(2, c)},
		{toLoad(2, a), toLoad(2, b)},
		{toDrop(3, c), toDrop(3, b), toLoad(3, c), toLoad(3, b)},
		{toDrop(3, a), toDrop(3, b), toDrop(3, c)},
		{toLoad(4, c)},
	}
}

// behind is what is served behind an order that was done.
func behind(served []api.Seg, m api.Msg) []api.Seg {
	served = slices.DeleteFunc(slices.Clone(served), func(s api.Seg) bool { return s == m.Order.Seg })
	if m.Order.Drop {
		return served
	}
	return append(served, m.Order.Seg)
}

// going does the script's ticks from one on, till the power goes off; the tick at which it did, and what may be served then: what was behind some of that tick's orders.
func going(t *testing.T, w *world, d *disk.Disk, n *Node, from int, served []api.Seg) (int, [][]api.Seg) {
	t.Helper()
	for tick, orders := range script()[from:] {
		tell(t, n, orders...)
		l := n.Tick(1+tick, w, w)
		may := [][]api.Seg{served}
		for _, m := range orders {
			served = behind(served, m)
			may = append(may, served)
		}
		if d.Off() {
			expectMsgs(t, l)
			w.expectStopped(n)
			d.On()
			w.expectStopped(n)
			return from + tick, may
		}
		w.expectJust(n, served...)
		// What is told is told of what lasts.
		if len(l) > 0 {
			expectMsgs(t, l, w.haves(1+tick, sorted(served)...)...)
		}
	}
	return len(script()), [][]api.Seg{served}
}

// TestCuts: P20.4, P20.6, the power goes off at each operation, and at one more on the disk behind it: the node answers nothing any more, and one that is made anew serves what was served behind some of the orders; it goes on from there.
func TestCuts(t *testing.T) {
	for _, part := range []int{-1, 0, 1, 9, 40, 1 << 20} {
		for first := 0; ; first++ {
			w, d, n := rigged(t, ordinary())
			w.publish(chunkOf(0), chunkOf(10), seg(0, 10, 2, 0, 1))
			d.CutAt(first, part)
			at, may := going(t, w, d, n, 0, nil)
			if at == len(script()) {
				break
			}
			for second := range 6 {
				n = w.node(d)
				served := n.Served()
				if !slices.ContainsFunc(may, func(l []api.Seg) bool { return slices.Equal(sorted(l), served) }) {
					t.Fatalf("cut at %d: %+v, which isn't one of %+v", first, served, may)
				}
				w.expectJust(n, served...)
				expectTerm(t, n, 0)
				expectWaiting(t, n, 0)
				d.CutAt(d.Ops()+second, part)
				at, may = going(t, w, d, n, at, served)
				if at == len(script()) {
					break
				}
			}
			rise(d, part)
			n = w.node(d)
			served := n.Served()
			going(t, w, d, n, min(at, len(script())-1), served)
		}
	}
}

// TestToldLasts: P20.6, what was told is served again behind a cut between ticks, whatever stays of what wasn't synced.
func TestToldLasts(t *testing.T) {
	for _, part := range []int{-1, 0, 1, 1 << 20} {
		w, d, n := rigged(t, ordinary())
		w.publish(chunkOf(0), chunkOf(10), seg(0, 10, 2, 0, 1))
		var told []api.Seg
		for tick, orders := range script() {
			tell(t, n, orders...)
			if l := n.Tick(1, w, w); len(l) > 0 {
				told = slices.Clone(l[0].Segs)
			}
			w.expectJust(n, told...)
			rise(d, part)
			n = w.node(d)
			if !slices.Equal(n.Served(), told) {
				t.Fatalf("behind tick %d: %+v, told %+v", tick, n.Served(), told)
			}
			w.expectJust(n, told...)
		}
	}
}

// TestOff: P20.4, a node that finds its disk's power off answers nothing any more, be it a tick or a message that finds it, also when the power is on again.
func TestOff(t *testing.T) {
	for name, find := range map[string]func(w *world, n *Node) []api.Msg{
		"a load":     func(w *world, n *Node) []api.Msg { return append(n.Handle(toLoad(1, chunkOf(10))), n.Tick(9, w, w)...) },
		"a drop":     func(w *world, n *Node) []api.Msg { return append(n.Handle(toDrop(1, chunkOf(0))), n.Tick(9, w, w)...) },
		"a tick":     func(w *world, n *Node) []api.Msg { return n.Tick(9, w, w) },
		"a question": func(w *world, n *Node) []api.Msg { return n.Handle(asked(all(), whole(chunkOf(0)))) },
		"twice":      func(w *world, n *Node) []api.Msg { return append(n.Tick(9, w, w), n.Tick(19, w, w)...) },
	} {
		w, d, n := serving(t, chunkOf(0))
		w.publish(chunkOf(10))
		d.Cut(0)
		if l := find(w, n); len(l) != 0 {
			t.Fatal(name, l)
		}
		w.expectStopped(n)
		d.On()
		w.expectStopped(n)
		w.expectJust(w.node(d), chunkOf(0))
	}
}

// TestOffForOne: P20.4, the power of a disk is no other node's, nor deep storage's.
func TestOffForOne(t *testing.T) {
	w, d, n := serving(t, chunkOf(0))
	other := disk.New()
	second, code := New(api.Store+1, w.setup, other)
	expectCode(t, code, api.OK)
	d.Cut(0)
	m := toLoad(1, chunkOf(0))
	m.Order.Node++
	tell(t, second, m)
	if l := second.Tick(1, w, w); len(l) == 0 || len(second.Served()) != 1 {
		t.Fatal("not served", l)
	}
	expectMsgs(t, n.Handle(asked(all(), whole(chunkOf(0)))))
}
