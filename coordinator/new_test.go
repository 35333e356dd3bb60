package coordinator

import (
	"math"
	"testing"

	"gristmill/api"
)

// expectNew makes a node, or is told why there is none.
func expectNew(t *testing.T, what any, id int, s api.Setup, want api.Errno) {
	t.Helper()
	n, code := New(id, s)
	if code != want || (n != nil) != (want == api.OK) {
		t.Errorf("%v: %v, %d, not %d", what, n, code, want)
	}
}

// TestExamples: the document's table.
func TestExamples(t *testing.T) {
	w := newWorld(t, ordinary())
	w.publish(chunkOf(0), chunkOf(10))
	n, other := w.node(api.Leader), w.node(api.Leader+1)
	expectCode(t, n.Compact(span(0, 20), w, w), api.ErrTerm)
	expectCode(t, n.Elect(w), api.OK)
	expectCode(t, other.Elect(w), api.OK)
	tell(n, have(api.Store, 1))
	expectOrders(t, n.Tick(1, w, w), api.Leader, 1)
	expectTerm(t, n, 0)
}

// TestNew: P21.1, a new node leads nobody, and does nothing.
func TestNew(t *testing.T) {
	w := newWorld(t, ordinary())
	w.publish(chunkOf(0), seg(0, 10, 2, 0, 1))
	w.put("loose")
	for _, id := range []int{api.Leader, api.Leader + 1} {
		n := w.node(id)
		tell(n, have(api.Store, 1))
		expectTerm(t, n, 0)
		for now := range 9 {
			expectOrders(t, n.Tick(now, w, w), id, 0)
		}
		expectCode(t, n.Compact(span(0, 20), w, w), api.ErrTerm)
		expectCode(t, n.Wipe(span(0, 20), w, w), api.ErrTerm)
		expectTerm(t, n, 0)
	}
	w.expectSegs(chunkOf(0), seg(0, 10, 2, 0, 1))
	w.expectBlobs("loose", nameOf(chunkOf(0)), nameOf(seg(0, 10, 2, 0, 1)))
}

// TestNewSetups: P21.1, setups at each end of what may be and beyond.
func TestNewSetups(t *testing.T) {
	for name, c := range map[string]struct {
		change func(s *api.Setup)
		may    bool
	}{
		"as it is":            {func(*api.Setup) {}, true},
		"-1 dimensions":       {func(s *api.Setup) { s.Schema.Dims = -1 }, false},
		"no dimensions":       {func(s *api.Setup) { s.Schema.Dims = 0 }, true},
		"8 dimensions":        {func(s *api.Setup) { s.Schema.Dims = 8 }, true},
		"9 dimensions":        {func(s *api.Setup) { s.Schema.Dims = 9 }, false},
		"-1 measures":         {func(s *api.Setup) { s.Schema.Meas = -1 }, false},
		"no measures":         {func(s *api.Setup) { s.Schema.Meas = 0 }, true},
		"8 measures":          {func(s *api.Setup) { s.Schema.Meas = 8 }, true},
		"9 measures":          {func(s *api.Setup) { s.Schema.Meas = 9 }, false},
		"no stream":           {func(s *api.Setup) { s.Streams = 0 }, false},
		"1 stream":            {func(s *api.Setup) { s.Streams = 1 }, true},
		"8 streams":           {func(s *api.Setup) { s.Streams = 8 }, true},
		"9 streams":           {func(s *api.Setup) { s.Streams = 9 }, false},
		"no store":            {func(s *api.Setup) { s.Stores = 0 }, false},
		"-1 stores":           {func(s *api.Setup) { s.Stores = -1 }, false},
		"1 store":             {func(s *api.Setup) { s.Stores = 1 }, true},
		"16 stores":           {func(s *api.Setup) { s.Stores = 16 }, true},
		"17 stores":           {func(s *api.Setup) { s.Stores = 17 }, false},
		"no leader":           {func(s *api.Setup) { s.Leaders = 0 }, false},
		"1 leader":            {func(s *api.Setup) { s.Leaders = 1 }, true},
		"16 leaders":          {func(s *api.Setup) { s.Leaders = 16 }, true},
		"17 leaders":          {func(s *api.Setup) { s.Leaders = 17 }, false},
		"chunk 0":             {func(s *api.Setup) { s.Chunk = 0 }, false},
		"chunk 1":             {func(s *api.Setup) { s.Chunk = 1 }, true},
		"chunk of all times":  {func(s *api.Setup) { s.Chunk = most }, true},
		"chunk of more":       {func(s *api.Setup) { s.Chunk = most + 1 }, false},
		"no replica":          {func(s *api.Setup) { s.Replicas = 0 }, false},
		"1000 replicas":       {func(s *api.Setup) { s.Replicas = 1000 }, true},
		"1001 replicas":       {func(s *api.Setup) { s.Replicas = 1001 }, false},
		"batch 0":             {func(s *api.Setup) { s.Batch = 0 }, false},
		"batch 1":             {func(s *api.Setup) { s.Batch = 1 }, true},
		"batch 1000":          {func(s *api.Setup) { s.Batch = 1000 }, true},
		"batch 1001":          {func(s *api.Setup) { s.Batch = 1001 }, false},
		"retry 0":             {func(s *api.Setup) { s.Retry = 0 }, false},
		"retry 1":             {func(s *api.Setup) { s.Retry = 1 }, true},
		"retry 1000":          {func(s *api.Setup) { s.Retry = 1000 }, true},
		"retry 1001":          {func(s *api.Setup) { s.Retry = 1001 }, false},
		"retention 0":         {func(s *api.Setup) { s.Retention = 0 }, false},
		"retention 1":         {func(s *api.Setup) { s.Retention = 1 }, true},
		"retention 1000":      {func(s *api.Setup) { s.Retention = 1000 }, true},
		"retention 1001":      {func(s *api.Setup) { s.Retention = 1001 }, false},
		"nothing of anything": {func(s *api.Setup) { *s = api.Setup{} }, false},
	} {
		s, want := ordinary(), api.ErrArg
		c.change(&s)
		if c.may {
			want = api.OK
		}
		expectNew(t, name, api.Leader, s, want)
	}
}

// TestNewIds: P21.1, numbers of coordinators that there are, and others.
func TestNewIds(t *testing.T) {
	for _, leaders := range []int{1, 2, 16} {
		s := ordinary()
		s.Leaders = leaders
		for id := -2; id < 90; id++ {
			want := api.ErrArg
			if 41 <= id && id < 41+leaders {
				want = api.OK
			}
			expectNew(t, id, id, s, want)
		}
		for _, id := range []int{math.MinInt, math.MaxInt, -api.Leader} {
			expectNew(t, id, id, s, api.ErrArg)
		}
	}
}

// TestNil: P21.1, of nil: ErrArg, 0, nothing; likewise of one that New didn't make.
func TestNil(t *testing.T) {
	for _, n := range []*Node{nil, {}} {
		w := newWorld(t, ordinary())
		w.publish(chunkOf(0), chunkOf(10))
		expectCode(t, n.Elect(w), api.ErrArg)
		expectCode(t, n.Elect(nil), api.ErrArg)
		for kind := range 9 {
			m := have(api.Store, 3, chunkOf(0))
			m.Kind = kind
			n.Handle(m)
		}
		for now := range 9 {
			expectOrders(t, n.Tick(now, w, w), 0, 0)
		}
		expectOrders(t, n.Tick(9, nil, nil), 0, 0)
		expectCode(t, n.Compact(span(0, 20), w, w), api.ErrArg)
		expectCode(t, n.Wipe(span(0, 20), w, w), api.ErrArg)
		expectCode(t, n.Compact(span(0, 20), nil, nil), api.ErrArg)
		expectCode(t, n.Wipe(span(0, 20), nil, nil), api.ErrArg)
		expectTerm(t, n, 0)
		w.expectCalls()
	}
}

// TestSetupIsOwn: a setup that is changed behind New changes nothing.
func TestSetupIsOwn(t *testing.T) {
	w := newWorld(t, ordinary())
	w.publish(chunkOf(0))
	s := ordinary()
	n, code := New(api.Leader, s)
	expectCode(t, code, api.OK)
	s.Stores, s.Replicas, s.Retry, s.Schema = 1, 3, 1, api.Schema{}
	expectCode(t, n.Elect(w), api.OK)
	tell(n, have(22, 1), have(23, 1))
	w.expectTick(n, 1, load(chunkOf(0), 22))
	expectCode(t, n.Wipe(span(0, 1), w, w), api.OK)
}
