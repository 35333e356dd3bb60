package coordinator

import (
	"slices"
	"testing"

	"gristmill/api"
)

// TestSweep: P21.2, P21.5, what nobody names is seen so for Retention - 1, Retention and more ticks.
func TestSweep(t *testing.T) {
	for _, retention := range []int{1, 2, 4, 1000} {
		s := ordinary()
		s.Retention = retention
		for name, ticks := range map[string]func(now, last int) bool{
			"each tick":        func(now, last int) bool { return true },
			"some ticks":       func(now, last int) bool { return now%3 == 0 || now == last },
			"none in between":  func(now, last int) bool { return now == last },
			"only a later one": func(now, last int) bool { return now > last },
		} {
			w, n := rigged(t, s)
			w.publish(chunkOf(0))
			w.put("loose")
			t.Log(name, retention)
			first := 7
			w.expectTick(n, first)
			for now := first + 1; now < first+retention; now++ {
				if ticks(now, first+retention) {
					w.expectTick(n, now)
				}
				w.expectBlobs("loose", nameOf(chunkOf(0)))
			}
			for now := first + retention; now < first+retention+2; now++ {
				if ticks(now, first+retention) {
					w.calls = nil
					w.expectTick(n, now)
					w.expectBlobs(nameOf(chunkOf(0)))
					w.expectCalls("State", "List", "Delete loose")
					break
				}
				w.expectBlobs("loose", nameOf(chunkOf(0)))
			}
			w.expectTick(n, first+retention+5)
			w.expectCalls("State", "List")
		}
	}
}

// TestSweepBroken: P21.2, a tick between at which it has seen nothing, or the blob was named, or wasn't there: it begins anew.
func TestSweepBroken(t *testing.T) {
	s := ordinary() // Retention 4
	for name, c := range map[string]struct {
		between func(w *world, n *Node) // at the tick 3
		begins  bool                    // it begins anew
	}{
		"nothing of it":     {func(w *world, n *Node) {}, false},
		"an ordinary tick":  {func(w *world, n *Node) { w.expectTick(n, 3) }, false},
		"the book was away": {at3("State", lost), true},
		"the book panicked": {at3("State", fault{panics: true}), true},
		"the book erred":    {at3("State", fault{code: api.Errno(77)}), true},
		"deep was away":     {at3("List", lost), true},
		"deep panicked":     {at3("List", fault{panics: true}), true},
		"deep erred":        {at3("List", fault{code: api.ErrNone}), true},
		"no book":           {func(w *world, n *Node) { n.Tick(3, nil, w) }, true},
		"no deep":           {func(w *world, n *Node) { n.Tick(3, w, nil) }, true},
		"not leading": {func(w *world, n *Node) {
			expectCode(t, w.node(42).Elect(w), api.OK)
			n.Tick(3, w, w)
			expectCode(t, n.Elect(w), api.OK)
		}, true},
		"not leading at a later tick": {func(w *world, n *Node) {
			w.fate = failing("Elect", lost)
			expectCode(t, n.Elect(w), api.ErrPower)
			w.fate = nil
			n.Tick(3, w, w)
			expectCode(t, n.Elect(w), api.OK)
		}, true},
		"another term, another tick's leading": {func(w *world, n *Node) { expectCode(t, n.Elect(w), api.OK) }, false},
		"a drop that was refused":              {dropAt3(lost), true},
		"a drop that was heard of only later":  {dropAt3(unheard), true},
		"a drop that was done":                 {dropAt3(fault{}), false},
		"named":                                {named(3), true},
		"named and not, between ticks":         {named(), false},
		"gone and there again": {func(w *world, n *Node) {
			expectCode(t, w.store.Delete("loose"), api.OK)
			n.Tick(3, w, w)
			w.put("loose")
		}, true},
		"what was put together and wiped": {func(w *world, n *Node) {
			expectCode(t, n.Compact(span(0, 20), w, w), api.ErrNone)
			expectCode(t, n.Wipe(span(50, 51), w, w), api.OK)
		}, false},
	} {
		w, n := rigged(t, s)
		w.publish(chunkOf(0))
		w.put("loose")
		isThere := func() bool { return slices.Contains(w.store.List(), "loose") }
		w.expectTick(n, 1)
		w.expectTick(n, 2)
		c.between(w, n)
		w.expectTick(n, 4)
		if !isThere() {
			t.Fatal("too early:", name)
		}
		w.expectTick(n, 5)
		if isThere() != c.begins {
			t.Fatal(name)
		}
		w.expectTick(n, 7)
		if isThere() != c.begins {
			t.Fatal("too early:", name)
		}
		w.expectTick(n, 8)
		if isThere() {
			t.Fatal("too late:", name)
		}
	}
}

// at3 is the tick 3, at which calls of a name come to this.
func at3(call string, f fault) func(w *world, n *Node) {
	return func(w *world, n *Node) {
		w.fate = failing(call, f)
		w.expectTick(n, 3)
		w.fate = nil
	}
}

// dropAt3 is the tick 3, at which there is something to drop.
func dropAt3(f fault) func(w *world, n *Node) {
	return func(w *world, n *Node) {
		w.publish(chunkOf(20), seg(20, 30, 2, 0, 1))
		at3("Do", f)(w, n)
	}
}

// named has the loose blob named, at these ticks.
func named(ticks ...int) func(w *world, n *Node) {
	return func(w *world, n *Node) {
		m := published(chunkOf(30), []byte("loose"), 1)
		m.Blob = "loose"
		w.do(api.Txn{Add: []api.Meta{m}})
		for _, now := range ticks {
			w.expectTick(n, now)
		}
		w.retract(chunkOf(30))
	}
}

// TestSweepDropped: P21.2, P21.5, what is named no more from a tick's drop on is deleted Retention ticks behind that tick.
func TestSweepDropped(t *testing.T) {
	for _, retention := range []int{1, 4} {
		s := ordinary()
		s.Retention = retention
		w, n := rigged(t, s)
		stays := seg(0, 10, 2, 0, 1)
		w.publish(chunkOf(0), stays)
		w.expectTick(n, 5)
		w.expectSegs(stays)
		for now := 6; now < 5+retention; now++ {
			w.expectTick(n, now)
		}
		w.expectBlobs(nameOf(stays), nameOf(chunkOf(0)))
		w.expectTick(n, 5+retention)
		w.expectBlobs(nameOf(stays))
	}
}

// TestSweepNamedAgain: P21.5, a blob that was named less than Retention ticks ago isn't deleted, though it was named by what a tick dropped.
func TestSweepNamedAgain(t *testing.T) {
	w, n := rigged(t, ordinary())
	w.publish(chunkOf(0), chunkOf(10))
	stays := seg(0, 10, 2, 0, 1)
	w.retract(chunkOf(0))
	w.expectTick(n, 1)
	w.expectTick(n, 3)
	// It is named from here to the tick 4.
	w.publish(chunkOf(0), stays)
	w.expectTick(n, 4)
	w.expectSegs(chunkOf(10), stays)
	for now := 5; now < 8; now++ {
		w.expectTick(n, now)
		w.expectBlobs(nameOf(chunkOf(0)), nameOf(chunkOf(10)), nameOf(stays))
	}
	w.expectTick(n, 8)
	w.expectBlobs(nameOf(chunkOf(10)), nameOf(stays))
}

// TestSweepRefusedDrop: P21.5, nor is one that was named when a drop was refused, or of which nobody knows whether it is named still.
func TestSweepRefusedDrop(t *testing.T) {
	for _, f := range []fault{lost, unheard, {panics: true}, {code: api.ErrEpoch}} {
		w, n := rigged(t, ordinary())
		stays := seg(0, 10, 2, 0, 1)
		w.publish(chunkOf(0), stays)
		w.put("loose")
		w.expectTick(n, 1)
		w.publish(chunkOf(0))
		w.fate = failing("Do", f)
		w.expectTick(n, 4)
		w.fate = nil
		for now := 5; now < 9; now++ {
			w.expectTick(n, now)
			w.expectBlobs("loose", nameOf(stays), nameOf(chunkOf(0)))
		}
		w.expectTick(n, 9)
		w.expectBlobs(nameOf(stays))
	}
}

// TestSweepNamed: P21.2, P21.5, no other blob is deleted: one that a meta names that doesn't count, that names it twice.
func TestSweepNamed(t *testing.T) {
	w, n := rigged(t, ordinary())
	there := []api.Seg{chunkOf(0), seg(10, 20, 1, 1, 2), seg(20, 30, 1, 0, 0)}
	w.publish(there...)
	twin := w.meta(chunkOf(0))
	twin.Seg = chunkOf(40)
	w.do(api.Txn{Add: []api.Meta{twin}})
	names := []string{nameOf(there[0]), nameOf(there[1]), nameOf(there[2])}
	w.put("c", "b", "a")
	for now := 1; now < 20; now++ {
		w.expectTick(n, now)
		if now < 5 {
			w.expectBlobs(append(names, "c", "b", "a")...)
		} else {
			w.expectBlobs(names...)
		}
		if now == 10 {
			// One of the two names it still.
			w.retract(chunkOf(0))
		}
	}
	w.retract(chunkOf(40))
	for now := 20; now < 24; now++ {
		w.expectTick(n, now)
		w.expectBlobs(names...)
	}
	w.expectTick(n, 24)
	w.expectBlobs(names[1:]...)
}

// TestSweepEach: P21.2, of each blob its own ticks count.
func TestSweepEach(t *testing.T) {
	w, n := rigged(t, ordinary())
	for now := 1; now < 30; now++ {
		w.put(string(rune('A' + now)))
		w.expectTick(n, now)
		var want []string
		for put := max(1, now-3); put <= now; put++ {
			want = append(want, string(rune('A'+put)))
		}
		w.expectBlobs(want...)
	}
}

// TestSweepFails: P21.2, deletes that fail, or of which nothing is known, are asked again; the others are done all the same, and so are the orders.
func TestSweepFails(t *testing.T) {
	fates := []fault{lost, {panics: true}}
	for _, code := range codes() {
		fates = append(fates, fault{code: code})
	}
	for _, f := range fates {
		w, n := rigged(t, ordinary())
		w.publish(chunkOf(0))
		w.put("a", "b", "c")
		tell(n, have(22, 1, chunkOf(0)))
		w.expectTick(n, 1)
		w.calls = nil
		for now := 5; now < 8; now++ {
			nth := 0
			w.fate = func(call string) fault {
				if call == "Delete " {
					nth++
				}
				if call == "Delete " && nth == 2 {
					return f
				}
				return fault{}
			}
			if now > 5 {
				w.fate = failing("Delete ", f)
			}
			tell(n, have(22, uint64(now)))
			want := load(chunkOf(0), 22)
			w.expectTick(n, now, want)
			w.expectBlobs("b", nameOf(chunkOf(0)))
			if now == 5 {
				w.expectCalls("State", "List", "Delete a", "Delete b", "Delete c")
			} else {
				w.expectCalls("State", "List", "Delete b")
			}
		}
		w.fate = nil
		expectTerm(t, n, 1)
		tell(n, have(22, 99, chunkOf(0)))
		w.expectTick(n, 8)
		w.expectBlobs(nameOf(chunkOf(0)))
	}
}

// TestSweepUnheard: P21.2, one that was deleted though nobody told so isn't taken for the one that comes by its name.
func TestSweepUnheard(t *testing.T) {
	w, n := rigged(t, ordinary())
	w.put("a")
	w.expectTick(n, 1)
	w.fate = failing("Delete ", unheard)
	w.expectTick(n, 5)
	w.fate = nil
	w.expectBlobs()
	w.expectTick(n, 6)
	w.put("a")
	for now := 7; now < 11; now++ {
		w.expectTick(n, now)
		w.expectBlobs("a")
	}
	w.expectTick(n, 11)
	w.expectBlobs()
}

// TestSweepTwice: rule 1, deep storage that tells a name twice, or names that no blob has.
func TestSweepTwice(t *testing.T) {
	w, n := rigged(t, ordinary())
	w.put("a", "b")
	odd := &oddDeep{w}
	for now := 1; now < 9; now++ {
		n.Tick(now, w, odd)
		if there := len(w.store.List()) > 0; there != (now < 5) {
			t.Fatal(now, w.store.List())
		}
	}
}

// oddDeep tells more than there is.
type oddDeep struct{ *world }

func (o *oddDeep) List() ([]string, api.Errno) {
	names, code := o.world.List()
	return append(append(names, "", "no such", "\x00"), names...), code
}
