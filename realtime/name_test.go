package realtime

import (
	"testing"

	"gristmill/api"
)

// seg is a segment of a span.
func seg(from, to int64, version, part, core int) api.Seg {
	return api.Seg{Span: api.Span{From: from, To: to}, Version: version, Part: part, Core: core}
}

// TestNames: P19.5, by what others published, the names of a batch with facts in some chunks of 10.
func TestNames(t *testing.T) {
	for name, c := range map[string]struct {
		there []api.Seg
		times []int64
		want  []api.Seg
	}{
		"nothing is there": {nil, []int64{12, 3, 25}, []api.Seg{seg(0, 10, 1, 0, 0), seg(10, 20, 1, 0, 0), seg(20, 30, 1, 0, 0)}},
		"others are elsewhere": {
			[]api.Seg{seg(10, 20, 4, 0, 0), seg(30, 40, 5, 0, 1)}, []int64{3, 25},
			[]api.Seg{seg(0, 10, 1, 0, 0), seg(20, 30, 1, 0, 0)},
		},
		"one counts": {[]api.Seg{seg(0, 10, 1, 0, 0)}, []int64{3}, []api.Seg{seg(0, 10, 1, 1, 0)}},
		"one counts with gaps in its parts": {
			[]api.Seg{seg(0, 10, 1, 0, 0), seg(0, 10, 1, 7, 0)}, []int64{3}, []api.Seg{seg(0, 10, 1, 8, 0)},
		},
		"one of Version 0":          {[]api.Seg{seg(0, 10, 0, 3, 0)}, []int64{9}, []api.Seg{seg(0, 10, 0, 4, 0)}},
		"one that was put together": {[]api.Seg{seg(0, 10, 6, 0, 1)}, []int64{0}, []api.Seg{seg(0, 10, 6, 1, 1)}},
		"one of three that belong together": {
			[]api.Seg{seg(0, 10, 6, 0, 3), seg(0, 10, 6, 2, 3), seg(0, 10, 6, 1, 3)}, []int64{0}, []api.Seg{seg(0, 10, 6, 3, 3)},
		},
		"a wider one": {[]api.Seg{seg(0, 40, 2, 0, 1)}, []int64{13}, []api.Seg{seg(0, 40, 2, 1, 1)}},
		"a wider one, and several chunks": {
			[]api.Seg{seg(0, 40, 2, 0, 1)}, []int64{13, 33, 2, 41},
			[]api.Seg{seg(0, 40, 2, 1, 1), seg(0, 40, 2, 2, 1), seg(0, 40, 2, 3, 1), seg(40, 50, 1, 0, 0)},
		},
		"a wider one that ends where the chunk begins": {
			[]api.Seg{seg(0, 10, 2, 0, 1)}, []int64{13}, []api.Seg{seg(10, 20, 1, 0, 0)},
		},
		"several versions, the greatest counts": {
			[]api.Seg{seg(0, 10, 1, 5, 0), seg(0, 10, 3, 0, 1), seg(0, 10, 2, 4, 0)}, []int64{3}, []api.Seg{seg(0, 10, 3, 1, 1)},
		},
		"several versions of several widths": {
			[]api.Seg{seg(0, 10, 2, 4, 0), seg(0, 100, 3, 0, 1), seg(10, 20, 4, 0, 1), seg(20, 30, 3, 2, 0)}, []int64{3, 13, 23, 33},
			[]api.Seg{seg(0, 100, 3, 1, 1), seg(10, 20, 4, 1, 1), seg(20, 30, 3, 3, 0), seg(0, 100, 3, 2, 1)},
		},
		"of one version the one that begins later, and ends sooner": {
			[]api.Seg{seg(0, 30, 3, 0, 0), seg(10, 30, 3, 0, 0), seg(10, 20, 3, 2, 0)}, []int64{13, 23, 3},
			[]api.Seg{seg(0, 30, 3, 1, 0), seg(10, 20, 3, 3, 0), seg(10, 30, 3, 1, 0)},
		},
		"one that waits for its parts": {[]api.Seg{seg(0, 10, 4, 0, 2)}, []int64{3}, []api.Seg{seg(0, 10, 5, 0, 0)}},
		"one that waits ahead of one that counts": {
			[]api.Seg{seg(0, 10, 4, 1, 2), seg(0, 10, 2, 0, 0)}, []int64{3}, []api.Seg{seg(0, 10, 2, 1, 0)},
		},
		"one of Version 0 that waits": {[]api.Seg{seg(0, 10, 0, 1, 2)}, []int64{3}, []api.Seg{seg(0, 10, 1, 0, 0)}},
		"a wider one that waits": {
			[]api.Seg{seg(0, 40, 4, 0, 2)}, []int64{3, 13}, []api.Seg{seg(0, 10, 5, 0, 0), seg(10, 20, 5, 0, 0)},
		},
		"one that meets the chunk's end alone": {[]api.Seg{seg(9, 20, 4, 0, 0)}, []int64{3}, []api.Seg{seg(0, 10, 5, 0, 0)}},
		"one that touches it":                  {[]api.Seg{seg(10, 20, 4, 0, 0)}, []int64{3}, []api.Seg{seg(0, 10, 1, 0, 0)}},
		"one that waits, of one moment of it":  {[]api.Seg{seg(5, 6, 9, 3, 2)}, []int64{3}, []api.Seg{seg(0, 10, 10, 0, 0)}},
		"one that counts at the beginning alone": {
			[]api.Seg{seg(0, 1, 3, 0, 0), seg(1, 10, 8, 0, 0)}, []int64{0}, []api.Seg{seg(0, 1, 3, 1, 0)},
		},
		"up to the end of time": {
			[]api.Seg{seg(most-100, most, 3, 0, 1)}, []int64{most - 1, most - 9}, []api.Seg{seg(most-100, most, 3, 1, 1), seg(most-100, most, 3, 2, 1)},
		},
	} {
		w, n := rigged(t, ordinary())
		if len(c.there) > 0 {
			w.publish(c.there...)
		}
		w.sealed(n, 1, c.times...)
		w.expectDone(1, 0, uint64(len(c.times)))
		var got []api.Seg
		for _, m := range w.done[0].Add {
			got = append(got, m.Seg)
		}
		// In the order of their chunks, in which they were named.
		if len(got) != len(c.want) {
			t.Fatal(name, got)
		}
		for at := range got {
			if got[at] != c.want[at] {
				t.Errorf("%s: %+v, not %+v", name, got[at], c.want[at])
			}
		}
	}
}

// TestNamesInOrder: P19.5, batch behind batch into the same chunks: each by what the one ahead of it is named.
func TestNamesInOrder(t *testing.T) {
	w, n := rigged(t, ordinary())
	w.take(n, 3, 13)
	n.Seal()
	n.Tick(1, nil, w)
	w.take(n, 4, 23)
	n.Seal()
	n.Tick(2, nil, w)
	w.take(n, 5)
	n.Seal()
	n.Tick(3, w, w)
	w.expectDone(3, 0, 5)
	expectSegs(t, n.Served(), seg(0, 10, 1, 0, 0), seg(0, 10, 1, 1, 0), seg(0, 10, 1, 2, 0), seg(10, 20, 1, 0, 0), seg(20, 30, 1, 0, 0))
}

// TestTwoNodes: P19.5, two nodes that publish into the same chunk.
func TestTwoNodes(t *testing.T) {
	w := newWorld(t, ordinary())
	a, b := w.node(0), w.node(1)
	for now := 1; now < 5; now++ {
		w.sealed(a, now, 3, 13)
		w.sealed(b, now, 3, 23)
		w.expectDone(2*now, 0, uint64(2*now))
		w.expectDone(2*now, 1, uint64(2*now))
	}
	expectSegs(t, a.Served()[:4], seg(0, 10, 1, 0, 0), seg(0, 10, 1, 2, 0), seg(0, 10, 1, 4, 0), seg(0, 10, 1, 6, 0))
	expectSegs(t, b.Served()[:4], seg(0, 10, 1, 1, 0), seg(0, 10, 1, 3, 0), seg(0, 10, 1, 5, 0), seg(0, 10, 1, 7, 0))
	expectMsgs(t, b.Tick(7, w, w), have(7, 1, b.Served()...))
}

// TestNamesThrown: P19.5, names among segments that look thrown. (Each transaction is held against P19.5's words.)
func TestNamesThrown(t *testing.T) {
	numbers := stream(31)
	for range 300 {
		w, n := rigged(t, ordinary())
		for range numbers.below(12) {
			from := int64(numbers.below(5)) * 5
			to := from + 5*int64(1+numbers.below(4))
			version, core := numbers.below(4), 0
			if version > 1 {
				core = (int(from+to) + version) % 3
			}
			s := seg(from, to, version, numbers.below(3), core)
			if _, code := w.log.Do(api.Txn{Epoch: w.state().Epoch, Add: []api.Meta{{Seg: s, Blob: "other"}}}); code != api.OK && code != api.ErrTwice {
				t.Fatal(code)
			}
		}
		for now := 1; now < 4; now++ {
			w.sealed(n, now, int64(numbers.below(30)), int64(numbers.below(30)), int64(numbers.below(30)))
		}
		w.expectDone(3, 0, 9)
	}
}
