package historical

import (
	"fmt"
	"strings"
	"testing"

	"gristmill/api"
	"gristmill/disk"
	"gristmill/wire"
)

// TestTickWithoutOrders: P20.4, nothing is asked of anybody, and nothing comes to be.
func TestTickWithoutOrders(t *testing.T) {
	w, d, n := rigged(t, ordinary())
	w.publish(chunkOf(0), chunkOf(10))
	for now := 1; now < 9; now++ {
		n.Tick(now, w, w)
		w.expectJust(n)
	}
	if w.calls != 0 || len(d.List("")) != 0 {
		t.Fatal("done without an order")
	}
}

// TestLoadServed: P20.4, a load of a segment that is served is done, whoever is away, whatever became of its meta.
func TestLoadServed(t *testing.T) {
	w, _, n := serving(t, chunkOf(0))
	w.fate = func(int) fault { return fault{code: api.ErrPower} }
	tell(t, n, toLoad(1, chunkOf(0)))
	expectMsgs(t, n.Tick(2, w, w))
	expectWaiting(t, n, 0)
	w.fate = nil
	w.retract(chunkOf(0))
	tell(t, n, toLoad(1, chunkOf(0)))
	n.Tick(3, w, w)
	expectWaiting(t, n, 0)
	expectServed(t, n, chunkOf(0))
	tell(t, n, toLoad(1, chunkOf(0)))
	n.Tick(4, nil, nil)
	expectWaiting(t, n, 0)
	w.expectJust(n, chunkOf(0))
}

// TestLoadWithoutMeta: P20.4, a segment that has no meta, or only one like it: the order is done, and nothing is served.
func TestLoadWithoutMeta(t *testing.T) {
	w, d, n := rigged(t, ordinary())
	w.publish(seg(0, 10, 1, 0, 1))
	for now, s := range []api.Seg{
		chunkOf(20), seg(0, 10, 1, 0, 0), seg(0, 10, 1, 0, 2), seg(0, 10, 1, 1, 1), seg(0, 10, 2, 0, 1), seg(0, 11, 1, 0, 1), seg(-1, 10, 1, 0, 1), {},
	} {
		tell(t, n, toLoad(1, s))
		expectMsgs(t, n.Tick(3*now, w, w), w.haves(3*now)...)
		expectWaiting(t, n, 0)
		w.expectJust(n)
	}
	// It isn't waited for: a meta that comes later changes nothing.
	w.publish(chunkOf(20))
	n.Tick(99, w, w)
	w.expectJust(n)
	w.expectJust(w.node(d))
}

// TestLoadNotThere: P20.4, while there is no such blob the order stays the first one, and those behind it wait.
func TestLoadNotThere(t *testing.T) {
	w, _, n := serving(t, chunkOf(30))
	w.publish(chunkOf(0), chunkOf(10), chunkOf(20))
	name := w.meta(chunkOf(10)).Blob
	b := w.blobs[name]
	delete(w.blobs, name)
	tell(t, n, toLoad(1, chunkOf(0)), toLoad(1, chunkOf(10)), toLoad(1, chunkOf(20)), toDrop(1, chunkOf(30)), toLoad(1, chunkOf(10)))
	expectMsgs(t, n.Tick(2, w, w), w.haves(2, chunkOf(0), chunkOf(30))...)
	for now := 3; now < 30; now++ {
		expectWaiting(t, n, 3)
		w.expectJust(n, chunkOf(0), chunkOf(30))
		n.Tick(now, w, w)
	}
	w.blobs[name] = b
	expectMsgs(t, n.Tick(30, w, w), w.haves(30, chunkOf(0), chunkOf(10), chunkOf(20))...)
	expectWaiting(t, n, 0)
	w.expectJust(n, chunkOf(0), chunkOf(10), chunkOf(20))
}

// TestLoadRetracted: P20.4, an order that stays is done, once there is no meta any more.
func TestLoadRetracted(t *testing.T) {
	w, _, n := rigged(t, ordinary())
	w.publish(chunkOf(0), chunkOf(10))
	delete(w.blobs, w.meta(chunkOf(0)).Blob)
	tell(t, n, toLoad(1, chunkOf(0)), toLoad(1, chunkOf(10)))
	n.Tick(1, w, w)
	expectWaiting(t, n, 2)
	w.retract(chunkOf(0))
	n.Tick(2, w, w)
	expectWaiting(t, n, 0)
	w.expectJust(n, chunkOf(10))
}

// TestLoadOthers: P20.4, P20.6, a blob that is there, but isn't what was published: the order is done, nothing is served or kept.
func TestLoadOthers(t *testing.T) {
	c, s := ordinary().Schema, chunkOf(10)
	good := bytesOf(t, c, factsOf(c, s))
	flipped := append([]byte{}, good...)
	flipped[len(flipped)-1] ^= 1
	garbage, _ := wire.Frame([]byte("no segment"))
	wide := api.Schema{Dims: 2, Meas: 1}
	others := map[string]struct {
		blob []byte
		meta api.Meta // that is in the book, but for its Seg and Blob
	}{
		"another sum":       {good, api.Meta{Sum: wire.Sum(good) + 1, Rows: 5}},
		"sum 0":             {good, api.Meta{Rows: 5}},
		"other bytes":       {flipped, api.Meta{Sum: wire.Sum(good), Rows: 5}},
		"the sum of them":   {flipped, api.Meta{Sum: wire.Sum(flipped), Rows: 5}},
		"bytes missing":     {good[:len(good)-1], api.Meta{Sum: wire.Sum(good), Rows: 5}},
		"bytes more":        {append(good[:len(good):len(good)], 0), api.Meta{Sum: wire.Sum(good), Rows: 5}},
		"no bytes":          {nil, api.Meta{Sum: wire.Sum(good), Rows: 5}},
		"no bytes, sum 0":   {[]byte{}, api.Meta{}},
		"no segment":        {garbage, api.Meta{Sum: wire.Sum(garbage)}},
		"the body alone":    {good[8:], api.Meta{Sum: wire.Sum(good[8:]), Rows: 5}},
		"another schema":    {bytesOf(t, wide, factsOf(wide, s)), api.Meta{Rows: 5}},
		"no schema":         {bytesOf(t, api.Schema{}, factsOf(api.Schema{}, s)), api.Meta{Rows: 5}},
		"another's facts":   {bytesOf(t, c, factsOf(c, seg(0, 10, 7, 0, 0))), api.Meta{Sum: wire.Sum(good), Rows: 5}},
		"rows one fewer":    {good, api.Meta{Sum: wire.Sum(good), Rows: 4}},
		"rows one more":     {good, api.Meta{Sum: wire.Sum(good), Rows: 6}},
		"no rows":           {good, api.Meta{Sum: wire.Sum(good)}},
		"rows below 0":      {good, api.Meta{Sum: wire.Sum(good), Rows: -5}},
		"as many as counts": {good, api.Meta{Sum: wire.Sum(good), Rows: 7}},
	}
	for name, o := range others {
		if name == "another schema" || name == "no schema" {
			o.meta.Sum = wire.Sum(o.blob)
		}
		w, d, n := rigged(t, ordinary())
		w.publish(chunkOf(0), s)
		o.meta.Seg, o.meta.Blob = s, w.meta(s).Blob
		*w.meta(s), w.blobs[o.meta.Blob] = o.meta, o.blob
		tell(t, n, toLoad(1, s), toLoad(1, chunkOf(0)))
		expectMsgs(t, n.Tick(1, w, w), w.haves(1, chunkOf(0))...)
		if n.Waiting() != 0 {
			t.Error("waits:", name)
		}
		w.expectJust(n, chunkOf(0))
		w.expectJust(w.node(d), chunkOf(0))
		// It may be loaded, once it is what was published.
		*w.meta(s), w.blobs[o.meta.Blob] = api.Meta{Seg: s, Blob: o.meta.Blob, Sum: wire.Sum(good), Rows: 5}, good
		tell(t, n, toLoad(1, s))
		n.Tick(2, w, w)
		w.expectJust(n, chunkOf(0), s)
	}
}

// TestLoadSpoilt: P20.4, deep storage that tells of a blob that what stands there is no frame: it is there, and isn't such.
func TestLoadSpoilt(t *testing.T) {
	w, _, n := rigged(t, ordinary())
	w.publish(chunkOf(0), chunkOf(10))
	w.fate = func(call int) fault {
		if call == 1 {
			return fault{code: api.ErrSum}
		}
		return fault{}
	}
	tell(t, n, toLoad(1, chunkOf(0)), toLoad(1, chunkOf(10)))
	expectMsgs(t, n.Tick(1, w, w), w.haves(1, chunkOf(10))...)
	expectWaiting(t, n, 0)
	w.expectJust(n, chunkOf(10))
}

// TestLoadLargest: P20.4, segments without a fact, of one, of so many rows as may be, of as many bytes as a frame may have.
func TestLoadLargest(t *testing.T) {
	s := ordinary()
	s.Schema = api.Schema{Dims: 8, Meas: 8}
	w, d, n := rigged(t, s)
	row := func(k int) api.Many {
		f := api.Fact{Time: 5, Dims: make([]string, 8), Meas: []int64{int64(k), 1, 2, 3, 4, 5, 6, 7}}
		for at := range f.Dims {
			f.Dims[at] = strings.Repeat("x", k%(7*at+5))
		}
		return api.Many{Fact: f, N: 1}
	}
	var rows []api.Many
	var segs []api.Seg
	longest := 0
	for k := range api.MaxFacts {
		rows = append(rows, row(k))
	}
	for part, many := range []int{0, 1, 2, 100, 1000, 4095, 4096} {
		b := bytesOf(t, s.Schema, rows[:many])
		longest = max(longest, len(b))
		segs = append(segs, seg(0, 10, 1, part, 0))
		w.metas = append(w.metas, metaOf(segs[part], b, many))
		w.blobs[w.metas[part].Blob] = b
		tell(t, n, toLoad(1, segs[part]))
	}
	if longest < 1<<17 {
		t.Fatal("short segments:", longest)
	}
	for range 2 {
		n.Tick(1, w, w)
		expectServed(t, n, segs...)
		q := api.Query{Span: api.Span{To: most}, Filter: api.Filter{Kind: api.FilterAll}, Sets: [][]int{{}}, Groups: 1}
		for part, many := range []uint64{0, 1, 2, 100, 1000, 4095, 4096} {
			q.Aggs = []api.Agg{{Kind: api.AggCount}}
			m := asked(q, whole(segs[part]))
			if l := n.Handle(m); l[0].Code != api.OK || many > 0 && l[0].Groups[0].Parts[0].N != many || many == 0 && len(l[0].Groups) > 0 {
				t.Fatal(l)
			}
		}
		n = w.node(d)
	}
}

// TestLoadLongest: P20.4, a segment whose body has MaxBytes bytes, and those that have a few fewer.
func TestLoadLongest(t *testing.T) {
	s := ordinary()
	s.Schema = api.Schema{Dims: 8, Meas: 8}
	for _, short := range []int{0, 1, 8, 60} {
		w, d, n := rigged(t, s)
		facts, b := ofBody(t, s.Schema, api.MaxBytes-short)
		w.metas = []api.Meta{metaOf(chunkOf(0), b, len(facts))}
		w.blobs[w.metas[0].Blob] = b
		tell(t, n, toLoad(1, chunkOf(0)))
		n.Tick(1, w, w)
		expectServed(t, n, chunkOf(0))
		expectServed(t, w.node(d), chunkOf(0))
	}
}

// ofBody are facts whose segment's frame has a body of so many bytes.
func ofBody(t *testing.T, c api.Schema, length int) ([]api.Many, []byte) {
	t.Helper()
	facts := make([]api.Many, 850)
	for k := range facts {
		f := api.Fact{Dims: make([]string, c.Dims), Meas: make([]int64, c.Meas)}
		for at := range f.Dims {
			f.Dims[at] = fmt.Sprintf("%05d", k)
		}
		facts[k] = api.Many{Fact: f, N: 1}
	}
	// Each text stands there once: one that is longer by a byte makes the body so much longer; and a dictionary that gets
	// long by a byte more, so that the last few are told at the end.
	for _, spare := range []int{64, 0} {
		left := length - spare - len(bytesOf(t, c, facts)) + 8
		for _, m := range facts {
			for at, text := range m.Fact.Dims {
				more := min(left, api.MaxText-len(text))
				m.Fact.Dims[at] = text + strings.Repeat("x", more)
				left -= more
			}
		}
	}
	b := bytesOf(t, c, facts)
	if len(b)-8 != length {
		t.Fatal("a body of", len(b)-8)
	}
	return facts, b
}

// TestDropNotServed: P20.4, a drop of what isn't served is done, and nothing comes of it.
func TestDropNotServed(t *testing.T) {
	w, d, n := serving(t, chunkOf(0))
	ops := d.Ops()
	for _, s := range []api.Seg{chunkOf(10), seg(0, 10, 1, 0, 1), seg(0, 10, 1, 1, 0), {}} {
		tell(t, n, toDrop(1, s))
	}
	expectMsgs(t, n.Tick(2, nil, nil))
	expectWaiting(t, n, 0)
	w.expectJust(n, chunkOf(0))
	if d.Ops() != ops {
		t.Fatal("something was done to the disk")
	}
}

// TestDrop: P20.4, a segment that is dropped is served no more, and its bytes leave the disk, whoever is away, and whether it is published or not.
func TestDrop(t *testing.T) {
	w, d, n := serving(t, chunkOf(0), chunkOf(10), chunkOf(20))
	w.retract(chunkOf(20))
	tell(t, n, toDrop(1, chunkOf(10)), toDrop(1, chunkOf(20)))
	w.expectJust(n, chunkOf(0), chunkOf(10), chunkOf(20))
	expectMsgs(t, n.Tick(2, nil, nil), w.haves(2, chunkOf(0))...)
	w.expectJust(n, chunkOf(0))
	w.expectJust(w.node(d), chunkOf(0))
	tell(t, n, toDrop(1, chunkOf(0)))
	expectMsgs(t, n.Tick(3, nil, nil), w.haves(3)...)
	for _, name := range d.List("") {
		if b, _ := d.Read(name); len(b) > 60 {
			t.Fatalf("%q is there still", name)
		}
	}
	w.expectJust(n)
	w.expectJust(w.node(d))
}

// TestDiskOfOthers: P20.4, the disk takes no file more: the order stays the first one, till there is room.
func TestDiskOfOthers(t *testing.T) {
	w, d, n := serving(t, chunkOf(0))
	w.publish(chunkOf(10), chunkOf(20))
	k := 0
	for ; d.Append(fmt.Sprint("o", k), nil) == api.OK; k++ {
	}
	tell(t, n, toLoad(1, chunkOf(10)), toDrop(1, chunkOf(0)), toLoad(1, chunkOf(20)))
	for now := 2; now < 20; now++ {
		n.Tick(now, w, w)
		expectWaiting(t, n, 3)
		w.expectJust(n, chunkOf(0))
	}
	w.expectJust(w.node(d), chunkOf(0))
	for range 30 {
		k--
		expectCode(t, d.Remove(fmt.Sprint("o", k)), api.OK)
	}
	expectMsgs(t, n.Tick(20, w, w), w.haves(20, chunkOf(10), chunkOf(20))...)
	expectWaiting(t, n, 0)
	w.expectJust(n, chunkOf(10), chunkOf(20))
	w.expectJust(w.node(d), chunkOf(10), chunkOf(20))
}

// TestFull: P20.4, a disk has room for as many segments as there may be metas; then a drop makes room for another one.
func TestFull(t *testing.T) {
	w, d, n := rigged(t, ordinary())
	var segs []api.Seg
	for k := range int64(api.MaxMetas + 1) {
		segs = append(segs, chunkOf(10*k))
	}
	w.publish(segs...)
	for _, s := range segs[:api.MaxMetas] {
		tell(t, n, toLoad(1, s))
	}
	n.Tick(1, w, w)
	expectWaiting(t, n, 0)
	expectServed(t, n, segs[:api.MaxMetas]...)
	tell(t, n, toLoad(1, segs[api.MaxMetas]))
	expectMsgs(t, n.Tick(2, w, w))
	expectWaiting(t, n, 1)
	n = w.node(d)
	expectServed(t, n, segs[:api.MaxMetas]...)
	tell(t, n, toDrop(1, segs[5]), toLoad(1, segs[api.MaxMetas]))
	n.Tick(1, w, w)
	expectWaiting(t, n, 0)
	segs = append(segs[:5:5], segs[6:]...)
	expectServed(t, n, segs...)
	expectServed(t, w.node(d), segs...)
}

// TestNewDiskEach: nodes on disks of their own know nothing of one another.
func TestNewDiskEach(t *testing.T) {
	w, _, n := serving(t, chunkOf(0))
	other := w.node(disk.New())
	w.expectJust(other)
	tell(t, other, toLoad(5, chunkOf(0)))
	expectTerm(t, n, 1)
	expectWaiting(t, n, 0)
	other.Tick(1, w, w)
	tell(t, other, toDrop(5, chunkOf(0)))
	other.Tick(2, w, w)
	w.expectJust(n, chunkOf(0))
}
