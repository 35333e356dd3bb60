package coordinator

import (
	"math"
	"slices"
	"testing"

	"gristmill/api"
)

// codes are errors that others may answer.
func codes() []api.Errno {
	return []api.Errno{api.ErrPower, api.ErrArg, api.ErrNone, api.ErrSum, api.ErrEpoch, api.ErrLimit, api.Errno(999), api.Errno(-1)}
}

// failing is a fate in which calls of a name come to this.
func failing(name string, f fault) func(string) fault {
	return func(call string) fault {
		if call == name {
			return f
		}
		return fault{}
	}
}

// TestElect: P21.1, it leads the term that was told; each one that it is elected for anew.
func TestElect(t *testing.T) {
	w := newWorld(t, ordinary())
	n, other := w.node(api.Leader), w.node(api.Leader+1)
	expectCode(t, n.Elect(w), api.OK)
	w.expectCalls("Elect")
	expectTerm(t, n, 1)
	expectTerm(t, other, 0)
	if s := w.log.State(); s.Term != 1 || s.Leader != api.Leader {
		t.Fatal("elected", s)
	}
	expectCode(t, n.Elect(w), api.OK)
	expectTerm(t, n, 2)
	expectCode(t, other.Elect(w), api.OK)
	expectTerm(t, other, 3)
	if s := w.log.State(); s.Term != 3 || s.Leader != api.Leader+1 {
		t.Fatal("elected", s)
	}
	// Nobody told it yet.
	expectTerm(t, n, 2)
	w.expectTick(n, 1)
	expectTerm(t, n, 0)
	w.expectTick(other, 1)
	expectTerm(t, other, 3)
	expectCode(t, n.Elect(w), api.OK)
	expectTerm(t, n, 4)
	w.expectTick(n, 2)
	w.expectTick(other, 2)
	expectTerm(t, n, 4)
	expectTerm(t, other, 0)
}

// TestElectNoBook: P21.1, ErrArg of a book that is nil; who leads leads on.
func TestElectNoBook(t *testing.T) {
	w := newWorld(t, ordinary())
	n := w.node(api.Leader)
	expectCode(t, n.Elect(nil), api.ErrArg)
	expectTerm(t, n, 0)
	expectCode(t, n.Elect(w), api.OK)
	expectCode(t, n.Elect(nil), api.ErrArg)
	expectTerm(t, n, 1)
	w.publish(chunkOf(0))
	tell(n, have(22, 1))
	w.expectTick(n, 1, load(chunkOf(0), 22))
	// One that isn't there, though it isn't nil, is away.
	var none *world
	expectCode(t, n.Elect(none), api.ErrPower)
	expectTerm(t, n, 0)
}

// TestElectFails: P21.1, the book's error; it leads no more then, whether it was elected or not.
func TestElectFails(t *testing.T) {
	fates := []fault{unheard, {panics: true}}
	for _, code := range codes() {
		fates = append(fates, fault{code: code})
	}
	for _, f := range fates {
		w := newWorld(t, ordinary())
		w.publish(chunkOf(0), chunkOf(10))
		n := w.node(api.Leader)
		tell(n, have(22, 1))
		expectFails := func() {
			t.Helper()
			want := f.code
			if f.panics {
				want = api.ErrPower
			}
			w.fate = failing("Elect", f)
			expectCode(t, n.Elect(w), want)
			w.fate = nil
			expectTerm(t, n, 0)
			w.expectTick(n, 1)
			expectCode(t, n.Compact(span(0, 20), w, w), api.ErrTerm)
			expectCode(t, n.Wipe(span(0, 20), w, w), api.ErrTerm)
			expectTerm(t, n, 0)
		}
		expectFails()
		expectCode(t, n.Elect(w), api.OK)
		w.expectTick(n, 2, load(chunkOf(0), 22), load(chunkOf(10), 22))
		expectFails()
		// What it ordered ahead of that isn't under way any more.
		expectCode(t, n.Elect(w), api.OK)
		w.expectTick(n, 3, load(chunkOf(0), 22), load(chunkOf(10), 22))
	}
}

// TestOtherStates: P21.1, P21.2, a state of another Term, of the same Term and another Leader: it leads no more, whoever finds that out.
func TestOtherStates(t *testing.T) {
	for name, change := range map[string]func(s *api.State){
		"a later term":              func(s *api.State) { s.Term = 2 },
		"an earlier term":           func(s *api.State) { s.Term = 0 },
		"a later term of its own":   func(s *api.State) { s.Term, s.Leader = 7, api.Leader },
		"another leader":            func(s *api.State) { s.Leader = api.Leader + 1 },
		"no leader":                 func(s *api.State) { s.Leader = 0 },
		"another term and leader":   func(s *api.State) { s.Term, s.Leader = 2, api.Leader+1 },
		"numbers that there aren't": func(s *api.State) { s.Term, s.Leader = math.MinInt, math.MaxInt },
	} {
		for _, call := range []func(n *Node, w, told api.Book, d api.Deep){
			func(n *Node, w, told api.Book, d api.Deep) { expectOrders(t, n.Tick(2, told, d), api.Leader, 1) },
			func(n *Node, w, told api.Book, d api.Deep) {
				expectCode(t, n.Compact(span(0, 20), told, d), api.ErrTerm)
			},
			func(n *Node, w, told api.Book, d api.Deep) { expectCode(t, n.Wipe(span(0, 20), told, d), api.ErrTerm) },
		} {
			w, n := rigged(t, ordinary())
			w.publish(chunkOf(0), chunkOf(10), seg(0, 10, 2, 0, 1))
			tell(n, have(22, 1))
			told := &retold{w, change}
			call(n, w, told, w)
			expectTerm(t, n, 0)
			w.expectCalls("State")
			// It doesn't begin to lead again when that goes by.
			w.expectTick(n, 3)
			expectTerm(t, n, 0)
			if w.expectCalls(); len(w.segs()) != 3 {
				t.Fatal(name)
			}
		}
	}
}

// retold is a world in which another state is told.
type retold struct {
	*world
	change func(s *api.State)
}

func (r *retold) State() (api.State, api.Errno) {
	s, code := r.world.State()
	r.change(&s)
	return s, code
}

// TestBookAway: P21.1, P21.2, while the book tells nothing it does nothing, and leads on.
func TestBookAway(t *testing.T) {
	fates := []fault{lost, unheard, {panics: true}}
	for _, code := range codes() {
		fates = append(fates, fault{code: code})
	}
	for _, f := range fates {
		w, n := rigged(t, ordinary())
		w.publish(chunkOf(0), chunkOf(10), seg(0, 10, 2, 0, 1))
		w.put("loose")
		tell(n, have(22, 1))
		want := f.code
		if f.panics {
			want = api.ErrPower
		}
		w.fate = failing("State", f)
		for now := 1; now < 9; now++ {
			w.expectTick(n, now)
			expectCode(t, n.Compact(span(0, 20), w, w), want)
			expectCode(t, n.Wipe(span(0, 20), w, w), want)
			w.expectCalls("State", "State", "State")
			expectTerm(t, n, 1)
		}
		expectOrders(t, n.Tick(9, nil, w), api.Leader, 1)
		w.expectCalls()
		expectTerm(t, n, 1)
		w.fate = nil
		tell(n, have(22, 2))
		w.expectTick(n, 10, load(seg(0, 10, 2, 0, 1), 22), load(chunkOf(10), 22))
		w.expectCalls("State", "Do", "List")
	}
}

// TestFollowedTerm: P21.1 to P21.5, every call ahead of an Elect, behind one's own, behind another's, behind one's own again.
func TestFollowedTerm(t *testing.T) {
	w := newWorld(t, ordinary())
	w.publish(chunkOf(0), chunkOf(10), chunkOf(20), chunkOf(30))
	a, b := w.node(api.Leader), w.node(api.Leader+1)
	all := []api.Seg{chunkOf(0), chunkOf(10), chunkOf(20), chunkOf(30)}
	now := 0
	expectNobody := func(n *Node) {
		t.Helper()
		now++
		tell(n, have(21, uint64(now)))
		w.expectTick(n, now)
		expectCode(t, n.Compact(span(0, 20), w, w), api.ErrTerm)
		expectCode(t, n.Wipe(span(0, 20), w, w), api.ErrTerm)
		expectTerm(t, n, 0)
		w.expectSegs(all...)
	}
	expectLeads := func(n *Node, term int) {
		t.Helper()
		now++
		expectTerm(t, n, term)
		tell(n, have(21, uint64(now)))
		var orders []api.Order
		for _, s := range visible(all) {
			orders = append(orders, load(s, 21))
		}
		expectOrders(t, n.Tick(now, w, w), n.id, term, orders...)
		all = visible(all)
		// One of Version 1 and of this term's span is put together, and then wiped of nothing.
		from, version := int64(0), 1
		for _, s := range all {
			if s.Span.From == 0 {
				version = max(version, s.Version)
			}
		}
		expectCode(t, n.Compact(span(from, 20), w, w), compactCode(version))
		if version == 1 {
			all = append(all, seg(0, 20, 2, 0, 1))
		}
		w.expectSegs(all...)
		last := all[len(all)-1]
		expectCode(t, n.Wipe(span(last.Span.From, last.Span.From+1), w, w), api.OK)
		all = append(all, seg(last.Span.From, last.Span.To, last.Version+1, 0, 1))
		w.expectSegs(all...)
		expectTerm(t, n, term)
	}
	expectNobody(a)
	expectNobody(b)
	expectCode(t, a.Elect(w), api.OK)
	expectLeads(a, 1)
	expectNobody(b)
	expectCode(t, b.Elect(w), api.OK)
	expectNobody(a)
	expectLeads(b, 2)
	expectCode(t, a.Elect(w), api.OK)
	expectNobody(b)
	expectLeads(a, 3)
}

// compactCode is what Compact of one set with so great a version answers: it was put together already, if it has another.
func compactCode(version int) api.Errno {
	if version > 1 {
		return api.ErrNone
	}
	return api.OK
}

// visible are segments without those that another one of a greater version covers.
func visible(all []api.Seg) []api.Seg {
	l := slices.DeleteFunc(slices.Clone(all), func(s api.Seg) bool {
		return slices.ContainsFunc(all, func(o api.Seg) bool {
			return o.Version > s.Version && o.Span.From <= s.Span.From && s.Span.To <= o.Span.To
		})
	})
	slices.SortFunc(l, func(a, b api.Seg) int { return int(a.Span.From - b.Span.From) })
	return l
}
