package historical

import (
	"math"
	"testing"

	"gristmill/api"
	"gristmill/disk"
)

// TestHave: P20.5, at the first tick, at changes, when Retry ticks have gone by, and at no other one.
func TestHave(t *testing.T) {
	for _, retry := range []int{1, 2, 3, 7, 1000} {
		s := ordinary()
		s.Retry = retry
		w, _, n := rigged(t, s)
		w.publish(chunkOf(0), chunkOf(10))
		last := 1
		expectMsgs(t, n.Tick(1, w, w), w.haves(1)...)
		var served []api.Seg
		for now := 2; now < 2600; now++ {
			changed := true
			switch now {
			case 50:
				tell(t, n, toLoad(1, chunkOf(10)))
				served = []api.Seg{chunkOf(10)}
			case 55:
				tell(t, n, toLoad(1, chunkOf(0)))
				served = []api.Seg{chunkOf(0), chunkOf(10)}
			case 56:
				tell(t, n, toDrop(1, chunkOf(10)))
				served = []api.Seg{chunkOf(0)}
			case 77, 78:
				tell(t, n, toLoad(1, chunkOf(0)), toDrop(1, chunkOf(10)), toLoad(1, chunkOf(20)))
				changed = false
			case 1500:
				tell(t, n, toDrop(1, chunkOf(0)))
				served = nil
			default:
				changed = false
			}
			l := n.Tick(now, w, w)
			if changed || now-last == retry {
				expectMsgs(t, l, w.haves(now, served...)...)
				last = now
			} else {
				expectMsgs(t, l)
			}
		}
	}
}

// TestHaveFirst: P20.5, the first tick tells, whatever its number, whatever is served, whoever is away.
func TestHaveFirst(t *testing.T) {
	for _, now := range []int{1, 0, 2, 3, 1000, math.MaxInt, -1, math.MinInt} {
		w, d, n := rigged(t, ordinary())
		expectMsgs(t, n.Tick(now, nil, nil), w.haves(now)...)
		expectMsgs(t, n.Tick(now, w, w))
		w.publish(chunkOf(0))
		tell(t, n, toLoad(1, chunkOf(0)))
		expectMsgs(t, n.Tick(now, w, w), w.haves(now, chunkOf(0))...)
		n = w.node(d)
		expectMsgs(t, n.Tick(now, nil, nil), w.haves(now, chunkOf(0))...)
		n = w.node(disk.New())
		tell(t, n, toLoad(1, chunkOf(0)))
		expectMsgs(t, n.Tick(now, w, w), w.haves(now, chunkOf(0))...)
	}
}

// TestHaveLater: P20.5, ticks whose numbers aren't side by side.
func TestHaveLater(t *testing.T) {
	w, _, n := serving(t, chunkOf(0))
	expectMsgs(t, n.Tick(3, w, w))
	expectMsgs(t, n.Tick(6, w, w), w.haves(6, chunkOf(0))...)
	expectMsgs(t, n.Tick(8, w, w))
	expectMsgs(t, n.Tick(1<<40, nil, nil), w.haves(1<<40, chunkOf(0))...)
	expectMsgs(t, n.Tick(1<<40+2, nil, nil))
	expectMsgs(t, n.Tick(1<<40+3, nil, nil), w.haves(1<<40+3, chunkOf(0))...)
}

// TestHaveCameAndWent: P20.5, at a tick at which a segment came and went, or went and came, it is told, too.
func TestHaveCameAndWent(t *testing.T) {
	w, _, n := serving(t, chunkOf(0))
	w.publish(chunkOf(10))
	tell(t, n, toLoad(1, chunkOf(10)), toDrop(1, chunkOf(10)))
	expectMsgs(t, n.Tick(2, w, w), w.haves(2, chunkOf(0))...)
	tell(t, n, toDrop(1, chunkOf(0)), toLoad(1, chunkOf(0)))
	expectMsgs(t, n.Tick(3, w, w), w.haves(3, chunkOf(0))...)
	expectMsgs(t, n.Tick(4, w, w))
	w.expectJust(n, chunkOf(0))
}

// TestHaveOfNothing: P20.5, orders by which nothing comes or goes are told of nobody.
func TestHaveOfNothing(t *testing.T) {
	w, _, n := serving(t, chunkOf(0))
	w.publish(chunkOf(10))
	w.meta(chunkOf(10)).Sum++
	tell(t, n, toLoad(1, chunkOf(0)), toDrop(1, chunkOf(20)), toLoad(1, chunkOf(20)), toLoad(1, chunkOf(10)))
	expectMsgs(t, n.Tick(2, w, w))
	expectWaiting(t, n, 0)
	tell(t, n, toDrop(1, chunkOf(10)))
	expectMsgs(t, n.Tick(3, w, w))
}

// TestHearers: P20.5, to whom it is told, and in what order, with as few and as many nodes as may be; from the node itself.
func TestHearers(t *testing.T) {
	for _, streams := range []int{1, 2, 8} {
		for _, leaders := range []int{1, 3, 16} {
			s := ordinary()
			s.Streams, s.Leaders, s.Stores = streams, leaders, 16
			for _, id := range []int{21, 22, 36} {
				n, code := New(id, s, disk.New())
				expectCode(t, code, api.OK)
				l := n.Tick(7, nil, nil)
				if len(l) != streams+leaders+1 {
					t.Fatal(len(l))
				}
				for at, m := range l {
					want := api.Msg{Kind: api.MsgHave, From: id, Count: 7}
					switch {
					case at < streams:
						want.To = api.Realtime + at
					case at < streams+leaders:
						want.To = api.Leader + at - streams
					default:
						want.To = api.Broker
					}
					expectMsgs(t, []api.Msg{m}, want)
				}
			}
		}
	}
}

// TestServedOrder: P20.5, Served by Spans, Versions, Parts, in whatever order they came.
func TestServedOrder(t *testing.T) {
	segs := append(extremes(), chunkOf(100), chunkOf(20), seg(20, 25, 3, 0, 0), seg(20, 40, 1, 0, 0), seg(20, 30, 0, 7, 9), seg(20, 30, 1, 2, 0),
		seg(20, 30, 1, 1, 0), seg(20, 30, 10, 0, 0), seg(20, 30, 9, 0, 0), seg(20, 30, 1, 10, 0), seg(3, 100, 1, 1, 1), seg(3, 99, 5, 1, 1))
	thrown := stream(5)
	for range 5 {
		for at := range segs {
			other := thrown.below(at + 1)
			segs[at], segs[other] = segs[other], segs[at]
		}
		w, d, n := serving(t, segs...)
		expectMsgs(t, n.Tick(5, w, w), w.haves(5, sorted(segs)...)...)
		expectServed(t, w.node(d), segs...)
		tell(t, n, toDrop(1, segs[3]), toDrop(1, segs[0]))
		expectMsgs(t, n.Tick(6, w, w), w.haves(6, sorted(append(segs[4:len(segs):len(segs)], segs[1], segs[2]))...)...)
	}
}
