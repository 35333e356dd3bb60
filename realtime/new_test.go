package realtime

import (
	"math"
	"testing"

	"gristmill/api"
)

// told is a book that tells just this.
type told struct {
	state api.State
	code  api.Errno
}

func (b *told) State() (api.State, api.Errno)     { return b.state, b.code }
func (b *told) Do(api.Txn) (api.State, api.Errno) { return api.State{}, api.ErrPower }
func (b *told) Elect(int) (api.State, api.Errno)  { return api.State{}, api.ErrPower }
func published(offsets ...uint64) *told           { return &told{state: api.State{Offsets: offsets}} }
func expectNoNode(t *testing.T, n *Node, code, want api.Errno) {
	t.Helper()
	if n != nil || code != want {
		t.Fatalf("%v, %d, not %d", n, code, want)
	}
}

// TestNew: P19.1, a node that has taken what is published of its stream.
func TestNew(t *testing.T) {
	s := ordinary()
	s.Streams = 8
	b := published(0, 1, 7, 1000, 1<<40, 1<<63, highest-1, highest)
	for stream, want := range b.state.Offsets {
		n, code := New(stream, s, b)
		if code != api.OK || n == nil || n.Taken() != want || n.Waiting() != 0 || len(n.Served()) != 0 {
			t.Fatalf("%d: %+v, %d", stream, n, code)
		}
	}
}

// TestNewSetups: P19.1, setups at each end of what may be and beyond.
func TestNewSetups(t *testing.T) {
	for name, c := range map[string]struct {
		change func(s *api.Setup)
		may    bool
	}{
		"as it is":            {func(*api.Setup) {}, true},
		"no dimensions":       {func(s *api.Setup) { s.Schema.Dims = 0 }, true},
		"8 dimensions":        {func(s *api.Setup) { s.Schema.Dims = 8 }, true},
		"9 dimensions":        {func(s *api.Setup) { s.Schema.Dims = 9 }, false},
		"-1 measures":         {func(s *api.Setup) { s.Schema.Meas = -1 }, false},
		"9 measures":          {func(s *api.Setup) { s.Schema.Meas = 9 }, false},
		"1 stream":            {func(s *api.Setup) { s.Streams = 1 }, true},
		"8 streams":           {func(s *api.Setup) { s.Streams = 8 }, true},
		"9 streams":           {func(s *api.Setup) { s.Streams = 9 }, false},
		"no store":            {func(s *api.Setup) { s.Stores = 0 }, false},
		"16 stores":           {func(s *api.Setup) { s.Stores = 16 }, true},
		"17 stores":           {func(s *api.Setup) { s.Stores = 17 }, false},
		"no leader":           {func(s *api.Setup) { s.Leaders = 0 }, false},
		"16 leaders":          {func(s *api.Setup) { s.Leaders = 16 }, true},
		"17 leaders":          {func(s *api.Setup) { s.Leaders = 17 }, false},
		"chunk 0":             {func(s *api.Setup) { s.Chunk = 0 }, false},
		"chunk 1":             {func(s *api.Setup) { s.Chunk = 1 }, true},
		"chunk of all times":  {func(s *api.Setup) { s.Chunk = most }, true},
		"chunk of more":       {func(s *api.Setup) { s.Chunk = most + 1 }, false},
		"no replica":          {func(s *api.Setup) { s.Replicas = 0 }, false},
		"1000 replicas":       {func(s *api.Setup) { s.Replicas = 1000 }, true},
		"1001 replicas":       {func(s *api.Setup) { s.Replicas = 1001 }, false},
		"batch 0":             {func(s *api.Setup) { s.Batch = 0 }, false},
		"batch 1000":          {func(s *api.Setup) { s.Batch = 1000 }, true},
		"batch 1001":          {func(s *api.Setup) { s.Batch = 1001 }, false},
		"retry 0":             {func(s *api.Setup) { s.Retry = 0 }, false},
		"retry 1000":          {func(s *api.Setup) { s.Retry = 1000 }, true},
		"retry 1001":          {func(s *api.Setup) { s.Retry = 1001 }, false},
		"retention 0":         {func(s *api.Setup) { s.Retention = 0 }, false},
		"retention 1000":      {func(s *api.Setup) { s.Retention = 1000 }, true},
		"retention 1001":      {func(s *api.Setup) { s.Retention = 1001 }, false},
		"nothing of anything": {func(s *api.Setup) { *s = api.Setup{} }, false},
	} {
		s := ordinary()
		c.change(&s)
		n, code := New(0, s, published(3, 3))
		if c.may && (code != api.OK || n == nil || n.Taken() != 3) {
			t.Error("refused:", name, code)
		} else if !c.may && (code != api.ErrArg || n != nil) {
			t.Error("not refused:", name, code)
		}
	}
}

// TestNewStreams: P19.1, streams that there are, and others.
func TestNewStreams(t *testing.T) {
	for stream, want := range map[int]api.Errno{
		0: api.OK, 1: api.OK, 2: api.OK, 3: api.ErrArg, 4: api.ErrArg, -1: api.ErrArg,
		math.MinInt: api.ErrArg, math.MaxInt: api.ErrArg,
	} {
		s := ordinary()
		s.Streams = 3
		n, code := New(stream, s, published(1, 1, 1, 1, 1))
		if code != want || (n != nil) != (want == api.OK) {
			t.Error(stream, n, code)
		}
	}
}

// TestNewBooks: P19.1, a book that is nil, one that is away, one without an offset of the stream; of several errors the first.
func TestNewBooks(t *testing.T) {
	wrong := ordinary()
	wrong.Batch = 0
	away := &told{state: api.State{Offsets: []uint64{1, 1}}, code: api.ErrPower}
	for _, c := range []struct {
		stream int
		setup  api.Setup
		book   api.Book
		want   api.Errno
	}{
		{0, ordinary(), nil, api.ErrArg},
		{0, ordinary(), away, api.ErrPower},
		{0, ordinary(), &told{code: api.ErrForm}, api.ErrForm},
		{0, ordinary(), published(), api.ErrArg},
		{1, ordinary(), published(4), api.ErrArg},
		{1, ordinary(), published(4, 4), api.OK},
		{0, ordinary(), published(4), api.OK},
		{0, wrong, away, api.ErrArg},
		{2, ordinary(), away, api.ErrArg},
		{-1, ordinary(), away, api.ErrArg},
	} {
		n, code := New(c.stream, c.setup, c.book)
		if code != c.want || (n != nil) != (c.want == api.OK) {
			t.Errorf("%+v: %v, %d", c, n, code)
		}
	}
	// Whoever panics told nothing.
	var none *told
	n, code := New(0, ordinary(), none)
	expectNoNode(t, n, code, api.ErrPower)
}

// TestNil: P19.1, of nil: nothing, 0; likewise of one that New didn't make.
func TestNil(t *testing.T) {
	for _, n := range []*Node{nil, {}} {
		w := newWorld(t, ordinary())
		for kind := range 9 {
			expectMsgs(t, n.Handle(api.Msg{Kind: kind, From: api.Store, Offset: 1, Query: all(), Fact: at(1, 1)}))
		}
		n.Seal()
		expectMsgs(t, n.Tick(1, w, w))
		expectMsgs(t, n.Tick(2, nil, nil))
		if n.Taken() != 0 || len(n.Served()) != 0 || n.Waiting() != 0 || w.calls != 0 {
			t.Fatal("not nothing")
		}
	}
}
