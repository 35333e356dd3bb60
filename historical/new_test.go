package historical

import (
	"math"
	"slices"
	"testing"

	"gristmill/api"
	"gristmill/blob"
	"gristmill/disk"
	"gristmill/metalog"
)

// expectNew makes a node, or is told why there is none.
func expectNew(t *testing.T, what any, id int, s api.Setup, d *disk.Disk, want api.Errno) {
	t.Helper()
	n, code := New(id, s, d)
	if code != want || (n != nil) != (want == api.OK) {
		t.Errorf("%v: %v, %d, not %d", what, n, code, want)
	}
}

// TestNew: P20.1, on an empty disk: it serves nothing, Term 0.
func TestNew(t *testing.T) {
	w, d, n := rigged(t, ordinary())
	expectTerm(t, n, 0)
	expectWaiting(t, n, 0)
	expectServed(t, n)
	expectNoPiece(t, n, all(), whole(chunkOf(0)), api.ErrNone)
	if d.Off() {
		t.Fatal("the power is off")
	}
	expectMsgs(t, n.Tick(1, w, w), w.haves(1)...)
}

// TestNewSetups: P20.1, setups at each end of what may be and beyond.
func TestNewSetups(t *testing.T) {
	for name, c := range map[string]struct {
		change func(s *api.Setup)
		may    bool
	}{
		"as it is":            {func(*api.Setup) {}, true},
		"-1 dimensions":       {func(s *api.Setup) { s.Schema.Dims = -1 }, false},
		"no dimensions":       {func(s *api.Setup) { s.Schema.Dims = 0 }, true},
		"8 dimensions":        {func(s *api.Setup) { s.Schema.Dims = 8 }, true},
		"9 dimensions":        {func(s *api.Setup) { s.Schema.Dims = 9 }, false},
		"-1 measures":         {func(s *api.Setup) { s.Schema.Meas = -1 }, false},
		"no measures":         {func(s *api.Setup) { s.Schema.Meas = 0 }, true},
		"8 measures":          {func(s *api.Setup) { s.Schema.Meas = 8 }, true},
		"9 measures":          {func(s *api.Setup) { s.Schema.Meas = 9 }, false},
		"no stream":           {func(s *api.Setup) { s.Streams = 0 }, false},
		"1 stream":            {func(s *api.Setup) { s.Streams = 1 }, true},
		"8 streams":           {func(s *api.Setup) { s.Streams = 8 }, true},
		"9 streams":           {func(s *api.Setup) { s.Streams = 9 }, false},
		"no store":            {func(s *api.Setup) { s.Stores = 0 }, false},
		"1 store":             {func(s *api.Setup) { s.Stores = 1 }, true},
		"16 stores":           {func(s *api.Setup) { s.Stores = 16 }, true},
		"17 stores":           {func(s *api.Setup) { s.Stores = 17 }, false},
		"no leader":           {func(s *api.Setup) { s.Leaders = 0 }, false},
		"1 leader":            {func(s *api.Setup) { s.Leaders = 1 }, true},
		"16 leaders":          {func(s *api.Setup) { s.Leaders = 16 }, true},
		"17 leaders":          {func(s *api.Setup) { s.Leaders = 17 }, false},
		"chunk 0":             {func(s *api.Setup) { s.Chunk = 0 }, false},
		"chunk 1":             {func(s *api.Setup) { s.Chunk = 1 }, true},
		"chunk of all times":  {func(s *api.Setup) { s.Chunk = most }, true},
		"chunk of more":       {func(s *api.Setup) { s.Chunk = most + 1 }, false},
		"no replica":          {func(s *api.Setup) { s.Replicas = 0 }, false},
		"1000 replicas":       {func(s *api.Setup) { s.Replicas = 1000 }, true},
		"1001 replicas":       {func(s *api.Setup) { s.Replicas = 1001 }, false},
		"batch 0":             {func(s *api.Setup) { s.Batch = 0 }, false},
		"batch 1":             {func(s *api.Setup) { s.Batch = 1 }, true},
		"batch 1000":          {func(s *api.Setup) { s.Batch = 1000 }, true},
		"batch 1001":          {func(s *api.Setup) { s.Batch = 1001 }, false},
		"retry 0":             {func(s *api.Setup) { s.Retry = 0 }, false},
		"retry 1":             {func(s *api.Setup) { s.Retry = 1 }, true},
		"retry 1000":          {func(s *api.Setup) { s.Retry = 1000 }, true},
		"retry 1001":          {func(s *api.Setup) { s.Retry = 1001 }, false},
		"retention 0":         {func(s *api.Setup) { s.Retention = 0 }, false},
		"retention 1":         {func(s *api.Setup) { s.Retention = 1 }, true},
		"retention 1000":      {func(s *api.Setup) { s.Retention = 1000 }, true},
		"retention 1001":      {func(s *api.Setup) { s.Retention = 1001 }, false},
		"nothing of anything": {func(s *api.Setup) { *s = api.Setup{} }, false},
	} {
		s, want := ordinary(), api.ErrArg
		c.change(&s)
		if c.may {
			want = api.OK
		}
		expectNew(t, name, api.Store, s, disk.New(), want)
	}
}

// TestNewIds: P20.1, numbers of historical nodes that there are, and others.
func TestNewIds(t *testing.T) {
	for _, stores := range []int{1, 2, 16} {
		s := ordinary()
		s.Stores = stores
		for id := -2; id < 70; id++ {
			want := api.ErrArg
			if 21 <= id && id < 21+stores {
				want = api.OK
			}
			expectNew(t, id, id, s, disk.New(), want)
		}
		for _, id := range []int{math.MinInt, math.MaxInt, -api.Store} {
			expectNew(t, id, id, s, disk.New(), api.ErrArg)
		}
	}
}

// TestNewDisks: P20.1, a disk that is nil, one whose power is off; of several errors the first.
func TestNewDisks(t *testing.T) {
	off := disk.New()
	off.Cut(0)
	wrong := ordinary()
	wrong.Retry = 0
	expectNew(t, "nil", api.Store, ordinary(), nil, api.ErrArg)
	expectNew(t, "off", api.Store, ordinary(), off, api.ErrPower)
	expectNew(t, "off, wrong setup", api.Store, wrong, off, api.ErrArg)
	expectNew(t, "off, wrong number", api.Store-1, ordinary(), off, api.ErrArg)
	if !off.Off() {
		t.Error("the power is on")
	}
	off.On()
	expectNew(t, "on again", api.Store, ordinary(), off, api.OK)
}

// TestNil: P20.1, of nil: nothing, 0; likewise of one that New didn't make.
func TestNil(t *testing.T) {
	for _, n := range []*Node{nil, {}} {
		w := newWorld(t, ordinary())
		w.publish(chunkOf(0))
		for kind := range 9 {
			m := asked(all(), whole(chunkOf(0)))
			m.Kind = kind
			m.Order.Node = 0
			expectMsgs(t, n.Handle(m))
		}
		expectMsgs(t, n.Tick(1, w, w))
		expectMsgs(t, n.Tick(2, nil, nil))
		if n.Term() != 0 || len(n.Served()) != 0 || n.Waiting() != 0 || w.calls != 0 {
			t.Fatal("not nothing")
		}
	}
}

// extremes are segments whose numbers stand at the ends of what may be, and beyond.
func extremes() []api.Seg {
	return []api.Seg{
		seg(0, 1, 0, 0, 0), seg(0, most, 0, 0, 0), seg(most-1, most, math.MaxInt, math.MaxInt, math.MaxInt),
		seg(0, 1, 63, 64, 65), seg(4095, 4096, 1, 1<<40, 2), seg(0, 1, 0, 63, 0), seg(0, 1, 1<<62, 1<<61, 1<<63-2),
		seg(math.MinInt64, math.MaxInt64, math.MinInt, -1, -64), seg(-1, -2, -3, -4, -5),
	}
}

// TestNewUsed: P20.1, P20.6, a node that is made anew serves what it served, and waits for nothing; also twice, and of any number.
func TestNewUsed(t *testing.T) {
	w, d, n := serving(t, append(extremes(), chunkOf(0), chunkOf(10), chunkOf(20))...)
	tell(t, n, toDrop(7, chunkOf(10)), toDrop(7, seg(0, 1, 0, 63, 0)))
	n.Tick(2, w, w)
	w.publish(chunkOf(70))
	tell(t, n, toDrop(8, chunkOf(0)), toLoad(9, chunkOf(70)))
	want := slices.DeleteFunc(append(extremes(), chunkOf(0), chunkOf(20)), func(s api.Seg) bool { return s == seg(0, 1, 0, 63, 0) })
	w.expectJust(n, want...)
	for part := range 4 {
		rise(d, part-1)
		n = w.node(d)
		expectTerm(t, n, 0)
		expectWaiting(t, n, 0)
		w.expectJust(n, want...)
		expectMsgs(t, n.Tick(1, nil, nil), w.haves(1, sorted(want)...)...)
	}
	// What it is ordered then is done on top.
	tell(t, n, toDrop(0, chunkOf(20)), toLoad(0, chunkOf(10)))
	n.Tick(2, w, w)
	want[len(want)-1] = chunkOf(10)
	w.expectJust(n, want...)
	w.expectJust(w.node(d), want...)
}

// TestNewNotOrders: P20.1, what was ordered, and not done, isn't served by a node that is made anew.
func TestNewNotOrders(t *testing.T) {
	w, d, n := rigged(t, ordinary())
	w.publish(chunkOf(0), chunkOf(10))
	tell(t, n, toLoad(1, chunkOf(0)))
	n = w.node(d)
	w.expectJust(n)
	tell(t, n, toLoad(1, chunkOf(0)), toLoad(1, chunkOf(10)))
	delete(w.blobs, w.meta(chunkOf(10)).Blob)
	n.Tick(1, w, w)
	w.expectJust(n, chunkOf(0))
	w.expectJust(w.node(d), chunkOf(0))
}

// TestNewOtherSchema: P20.1, P20.6, on a disk with segments of another schema: they aren't served, nor later on.
func TestNewOtherSchema(t *testing.T) {
	for _, other := range []api.Schema{{}, {Dims: 1}, {Meas: 1}, {Dims: 2, Meas: 1}, {Dims: 1, Meas: 2}, {Dims: 8, Meas: 8}} {
		w, d, _ := serving(t, chunkOf(0), chunkOf(10))
		s := ordinary()
		s.Schema = other
		n, code := New(api.Store, s, d)
		expectCode(t, code, api.OK)
		expectServed(t, n)
		q := api.Query{Span: api.Span{To: most}, Filter: api.Filter{Kind: api.FilterAll}, Sets: [][]int{{}}, Groups: 1}
		expectNoPiece(t, n, q, whole(chunkOf(0)), api.ErrNone)
		n = w.node(d)
		w.expectJust(n)
		tell(t, n, toLoad(1, chunkOf(10)))
		n.Tick(1, w, w)
		w.expectJust(n, chunkOf(10))
		w.expectJust(w.node(d), chunkOf(10))
	}
}

// TestNewOthersFiles: P20.1, files that others wrote, segments among them: none is served, and they stay, but for drafts.
func TestNewOthersFiles(t *testing.T) {
	w, d, n := serving(t, chunkOf(0))
	some := bytesOf(t, w.setup.Schema, factsOf(w.setup.Schema, chunkOf(10)))
	files := map[string]string{"x": "", "m.other": "frame", "b.": "z", "b": "y", "s.a": "\x00", "seg": string(some), "b.seg": string(some)}
	// Names that are like those of its own files, but for a character.
	for _, name := range d.List("") {
		b, _ := d.Read(name)
		files[name[:len(name)-1]] = string(b)
		for at := 3; at < len(name); at++ {
			files[name[:at]+"!"+name[at+1:]] = string(b)
		}
	}
	for name, b := range files {
		expectCode(t, d.Append(name, []byte(b)), api.OK)
	}
	_, code := metalog.Open(d, 2)
	expectCode(t, code, api.OK)
	store, code := blob.Open(d)
	expectCode(t, code, api.OK)
	expectCode(t, store.Put("r0.0.1", some), api.OK)
	n = w.node(d)
	w.expectJust(n, chunkOf(0))
	w.publish(chunkOf(10), chunkOf(20))
	tell(t, n, toLoad(1, chunkOf(10)), toDrop(1, chunkOf(0)), toLoad(1, chunkOf(20)), toDrop(1, chunkOf(20)))
	n.Tick(1, w, w)
	w.expectJust(n, chunkOf(10))
	for name, b := range files {
		if got, code := d.Read(name); code != api.OK || string(got) != b {
			t.Fatalf("%q: %q, %d", name, got, code)
		}
	}
	log, code := metalog.Open(d, 2)
	expectCode(t, code, api.OK)
	if log.State().Epoch != 0 || !slices.Contains(store.List(), "r0.0.1") {
		t.Fatal("others' files were changed")
	}
	w.expectJust(w.node(d), chunkOf(10))
}

// TestNewDrafts: P20.1, what a cut left half written is no segment, and isn't in the way.
func TestNewDrafts(t *testing.T) {
	for op := range 9 {
		for _, part := range []int{-1, 0, 1, 8, 20, 1 << 20} {
			w, d, n := serving(t, chunkOf(0))
			w.publish(chunkOf(10))
			d.CutAt(d.Ops()+op, part)
			tell(t, n, toLoad(1, chunkOf(10)))
			n.Tick(2, w, w)
			if !d.Off() {
				w.expectJust(n, chunkOf(0), chunkOf(10))
				continue
			}
			rise(d, part)
			n = w.node(d)
			if served := n.Served(); len(served) != 1 {
				w.expectJust(n, chunkOf(0), chunkOf(10))
				continue
			}
			w.expectJust(n, chunkOf(0))
			tell(t, n, toLoad(1, chunkOf(10)))
			n.Tick(1, w, w)
			w.expectJust(n, chunkOf(0), chunkOf(10))
		}
	}
}

// spoilt is a disk with three segments that were told, of which one is spoilt, and with a draft.
func spoilt(t *testing.T) (*world, *disk.Disk) {
	t.Helper()
	w, d, n := serving(t, chunkOf(0))
	before := d.List("")
	w.publish(chunkOf(10), chunkOf(20), chunkOf(30))
	tell(t, n, toLoad(1, chunkOf(10)))
	n.Tick(2, w, w)
	for _, name := range d.List("") {
		if !slices.Contains(before, name) {
			b, _ := d.Read(name)
			b[len(b)/2] ^= 1
			write(t, d, name, b)
		}
	}
	tell(t, n, toLoad(1, chunkOf(20)))
	n.Tick(3, w, w)
	// A store's draft, as it is when the power goes off at its renaming.
	store, code := blob.Open(d)
	expectCode(t, code, api.OK)
	d.CutAt(d.Ops()+2, 9)
	expectCode(t, store.Put("other", []byte("half")), api.ErrPower)
	rise(d, 9)
	return w, d
}

// write is what somebody else makes a file to be.
func write(t *testing.T, d *disk.Disk, name string, b []byte) {
	t.Helper()
	if slices.Contains(d.List(name), name) {
		expectCode(t, d.Remove(name), api.OK)
	}
	expectCode(t, d.Append(name, b), api.OK)
	expectCode(t, d.Sync(name), api.OK)
}

// TestNewCuts: P20.1, the power goes off at each operation of New: ErrPower, and nothing is lost of what can be read.
func TestNewCuts(t *testing.T) {
	for _, part := range []int{-1, 0, 1, 1 << 20} {
		cuts := 0
		for op := 0; ; op++ {
			w, d := spoilt(t)
			d.CutAt(d.Ops()+op, part)
			n, code := New(api.Store, w.setup, d)
			if !d.Off() {
				expectCode(t, code, api.OK)
				w.expectJust(n, chunkOf(0), chunkOf(20))
				break
			}
			cuts++
			if n != nil || code != api.ErrPower {
				t.Fatalf("cut at %d: %v, %d", op, n, code)
			}
			expectNew(t, "off", api.Store, w.setup, d, api.ErrPower)
			rise(d, part)
			n = w.node(d)
			w.expectJust(n, chunkOf(0), chunkOf(20))
			tell(t, n, toLoad(1, chunkOf(10)), toLoad(1, chunkOf(30)))
			n.Tick(1, w, w)
			w.expectJust(n, chunkOf(0), chunkOf(10), chunkOf(20), chunkOf(30))
		}
		if cuts == 0 {
			t.Fatal("New does nothing about what is spoilt, or half written")
		}
	}
}
