package coordinator

import (
	"bytes"
	"maps"
	"reflect"
	"slices"
	"testing"

	"gristmill/api"
)

// sharing is a world that hands out its own memory, and keeps what it is handed.
type sharing struct {
	*world
	state api.State
	kept  map[string][]byte
	names []string
}

// sharingOf has what there is in a world.
func sharingOf(w *world) *sharing {
	s := &sharing{world: w, kept: map[string][]byte{}, names: append(make([]string, 0, 50), w.store.List()...)}
	s.take(w.log.State())
	for _, name := range s.names {
		b, _ := w.store.Get(name)
		s.kept[name] = append(make([]byte, 0, 9999), b...)
	}
	return s
}

func (s *sharing) take(state api.State) {
	state.Metas = append(make([]api.Meta, 0, 50), state.Metas...)
	s.state = state
}

func (s *sharing) State() (api.State, api.Errno) { return s.state, api.OK }

func (s *sharing) Do(t api.Txn) (api.State, api.Errno) {
	_, code := s.world.Do(t)
	return s.state, code
}

func (s *sharing) Get(name string) ([]byte, api.Errno) { return s.kept[name], api.OK }

func (s *sharing) Put(name string, b []byte) api.Errno {
	s.kept[name] = b
	return api.OK
}

func (s *sharing) List() ([]string, api.Errno) { return s.names, api.OK }

// copyOf is all that it might share, copied.
func (s *sharing) copyOf() *sharing {
	c := *s
	c.state.Metas, c.names = slices.Clone(s.state.Metas[:50]), slices.Clone(s.names[:50])
	c.kept = map[string][]byte{}
	for name, b := range s.kept {
		c.kept[name] = slices.Clone(b[:cap(b)])
	}
	return &c
}

func (s *sharing) expectUnchanged(before *sharing) {
	s.t.Helper()
	now := s.copyOf()
	maps.DeleteFunc(now.kept, func(name string, _ []byte) bool { return before.kept[name] == nil })
	if !reflect.DeepEqual(now.state, before.state) || !slices.Equal(now.names, before.names) || !maps.EqualFunc(now.kept, before.kept, bytes.Equal) {
		s.t.Fatal("changed")
	}
}

// TestTheirs: rule 3, what the book and deep storage tell isn't changed.
func TestTheirs(t *testing.T) {
	w, n := rigged(t, ordinary())
	w.publish(chunkOf(0), chunkOf(10), seg(10, 20, 2, 0, 1), chunkOf(30), chunkOf(40))
	w.put("z", "a")
	tell(n, have(22, 1, chunkOf(50)))
	s := sharingOf(w)
	before := s.copyOf()
	calls := []func() api.Errno{
		func() api.Errno { return n.Wipe(span(5, 35), s, s) },
		func() api.Errno { return n.Compact(span(0, 30), s, s) },
		func() api.Errno { n.Tick(1, s, s); return api.OK },
		func() api.Errno { n.Tick(2, s, s); return api.OK },
		func() api.Errno { n.Tick(9, s, s); return api.OK },
	}
	for at, call := range calls {
		expectCode(t, call(), api.OK)
		s.expectUnchanged(before)
		// What was committed is seen from now on.
		s.take(w.log.State())
		if before = s.copyOf(); at == 2 && len(s.state.Metas) != 3 {
			t.Fatal(s.state.Metas)
		}
	}
}

// TestNotKept: rule 3, what was handed in and what others told may be changed later.
func TestNotKept(t *testing.T) {
	w, n := rigged(t, ordinary())
	w.publish(chunkOf(0), chunkOf(10), chunkOf(20))
	w.put("loose")
	s := sharingOf(w)
	m := have(22, 1, chunkOf(0), chunkOf(40))
	want := slices.Clone(m.Segs)
	n.Handle(m)
	if !slices.Equal(m.Segs, want) {
		t.Fatal("changed", m.Segs)
	}
	clear(m.Segs)
	expectOrders(t, n.Tick(1, s, s), api.Leader, 1, drop(chunkOf(40), 22), load(chunkOf(10), 22), load(chunkOf(20), 22))
	names, metas := slices.Clone(s.names), slices.Clone(s.state.Metas)
	clear(s.names)
	clear(s.state.Metas)
	s.take(w.log.State())
	s.names = names
	expectOrders(t, n.Tick(2, s, s), api.Leader, 1)
	n.Tick(5, s, s)
	w.expectBlobs(nameOf(chunkOf(0)), nameOf(chunkOf(10)), nameOf(chunkOf(20)))
	if !slices.Equal(metas, w.log.State().Metas) {
		t.Fatal("changed")
	}
}

// TestAnswered: rule 3, whoever changes what is answered changes nothing else.
func TestAnswered(t *testing.T) {
	w, n := rigged(t, ordinary())
	w.publish(chunkOf(0), chunkOf(10), chunkOf(20))
	tell(n, have(22, 1))
	l := n.Tick(2, w, w)
	for at := range l {
		l[at] = api.Msg{Kind: 3, Order: drop(chunkOf(50), 99), Segs: []api.Seg{chunkOf(7)}}
	}
	_ = append(l[:1], api.Msg{}, api.Msg{}, api.Msg{})
	w.expectTick(n, 3)
	tell(n, have(22, 3))
	first := n.Tick(4, w, w)
	tell(n, have(22, 5))
	second := n.Tick(6, w, w)
	expectOrders(t, second, api.Leader, 1, load(chunkOf(0), 22), load(chunkOf(10), 22), load(chunkOf(20), 22))
	clear(second)
	expectOrders(t, first, api.Leader, 1, load(chunkOf(0), 22), load(chunkOf(10), 22), load(chunkOf(20), 22))
}

// TestAsked: rule 3, what the book and deep storage were handed may be kept by them, and changed by them.
func TestAsked(t *testing.T) {
	w, n := rigged(t, ordinary())
	w.publish(chunkOf(0), chunkOf(10), seg(10, 20, 2, 0, 1), chunkOf(20))
	tell(n, have(22, 1))
	w.expectTick(n, 1, load(chunkOf(0), 22), load(seg(10, 20, 2, 0, 1), 22), load(chunkOf(20), 22))
	asked := slices.Clone(w.txns[0].Drop)
	clear(w.txns[0].Drop)
	s := sharingOf(w)
	expectCode(t, n.Compact(span(10, 30), s, s), api.OK)
	m := w.meta(seg(10, 30, 3, 0, 1))
	put := slices.Clone(s.kept[m.Blob])
	expectCode(t, n.Wipe(span(5, 6), w, w), api.OK)
	w.expectTick(
		n, 2, drop(chunkOf(0), 22), drop(seg(10, 20, 2, 0, 1), 22), drop(chunkOf(20), 22),
		load(seg(0, 10, 2, 0, 1), 22), load(seg(10, 30, 3, 0, 1), 22),
	)
	if !slices.Equal(asked, []api.Seg{chunkOf(10)}) || !bytes.Equal(s.kept[m.Blob], put) || len(put) == 0 {
		t.Fatal("changed")
	}
}
