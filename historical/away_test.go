package historical

import (
	"testing"

	"gristmill/api"
)

// faults are those by which somebody is away.
func faults() []fault {
	return []fault{{code: api.ErrPower}, {panics: true}}
}

// TestAwayAtEachCall: P20.4, the book, or deep storage, is away at any call, for one tick or for many: what can't be done stays, what is behind it waits, and all is done in the end.
func TestAwayAtEachCall(t *testing.T) {
	for _, f := range faults() {
		for first := range 9 {
			for _, long := range []int{1, 2, 7} {
				w, d, n := serving(t, chunkOf(40))
				w.publish(chunkOf(0), chunkOf(10), chunkOf(20))
				w.calls = 0
				w.fate = func(call int) fault {
					if first <= call && call < first+long {
						return f
					}
					return fault{}
				}
				tell(t, n,
					toLoad(1, chunkOf(0)), toDrop(1, chunkOf(40)), toLoad(1, chunkOf(10)), toLoad(1, chunkOf(90)), toDrop(1, chunkOf(0)), toLoad(1, chunkOf(20)))
				expectSteps(t, w, n)
				w.expectJust(n, chunkOf(10), chunkOf(20))
				w.expectJust(w.node(d), chunkOf(10), chunkOf(20))
			}
		}
	}
}

// expectSteps lets a node go on till nothing waits: at each tick what is served is what the orders done so far make of it.
func expectSteps(t *testing.T, w *world, n *Node) {
	t.Helper()
	steps := [][]api.Seg{
		{chunkOf(40)}, {chunkOf(0), chunkOf(40)}, {chunkOf(0)}, {chunkOf(0), chunkOf(10)}, {chunkOf(0), chunkOf(10)}, {chunkOf(10)},
		{chunkOf(10), chunkOf(20)},
	}
	for now, waiting := 2, len(steps)-1; waiting > 0; now++ {
		if now > 20 {
			t.Fatal("they wait for ever")
		}
		if n.Waiting() > waiting {
			t.Fatal("more wait than did")
		}
		n.Tick(now, w, w)
		waiting = n.Waiting()
		w.expectJust(n, steps[len(steps)-1-waiting]...)
	}
}

// TestAwayForLong: P20.4, they are away for many ticks, or not there at all: the first order stays, those behind it wait, and others may come on top.
func TestAwayForLong(t *testing.T) {
	for name, c := range map[string]func(w *world) (api.Book, api.Deep){
		"no book":              func(w *world) (api.Book, api.Deep) { return nil, w },
		"no deep storage":      func(w *world) (api.Book, api.Deep) { return w, nil },
		"neither":              func(w *world) (api.Book, api.Deep) { return nil, nil },
		"a book of nil":        func(w *world) (api.Book, api.Deep) { return (*world)(nil), w },
		"deep storage of nil":  func(w *world) (api.Book, api.Deep) { return w, (*world)(nil) },
		"away":                 func(w *world) (api.Book, api.Deep) { return failing(w, api.ErrPower), w },
		"deep storage is away": func(w *world) (api.Book, api.Deep) { return w, failing(w, api.ErrPower) },
		"another error":        func(w *world) (api.Book, api.Deep) { return failing(w, api.ErrForm), w },
		"there is no such":     func(w *world) (api.Book, api.Deep) { return w, failing(w, api.ErrNone) },
	} {
		w, d, n := serving(t, chunkOf(40))
		w.publish(chunkOf(0), chunkOf(10))
		tell(t, n, toLoad(1, chunkOf(40)), toLoad(1, chunkOf(0)), toDrop(1, chunkOf(40)))
		b, s := c(w)
		for now := 2; now < 30; now++ {
			n.Tick(now, b, s)
			if n.Waiting() != 2 {
				t.Fatalf("%s: %d wait", name, n.Waiting())
			}
			w.expectJust(n, chunkOf(40))
			tell(t, n, toDrop(1, chunkOf(40)), toLoad(1, chunkOf(0)))
		}
		tell(t, n, toLoad(1, chunkOf(10)))
		expectWaiting(t, n, 3)
		w.expectJust(w.node(d), chunkOf(40))
		expectMsgs(t, n.Tick(30, w, w), w.haves(30, chunkOf(0), chunkOf(10))...)
		w.expectJust(n, chunkOf(0), chunkOf(10))
		w.expectJust(w.node(d), chunkOf(0), chunkOf(10))
	}
}

// failing is a world of which each call answers this code.
func failing(w *world, code api.Errno) *world {
	other := *w
	other.fate = func(int) fault { return fault{code: code} }
	return &other
}

// TestDropWhileAway: P20.4, drops ahead of the first load need nobody.
func TestDropWhileAway(t *testing.T) {
	w, _, n := serving(t, chunkOf(0), chunkOf(10), chunkOf(20))
	w.publish(chunkOf(30))
	tell(t, n, toDrop(1, chunkOf(0)), toDrop(1, chunkOf(10)), toLoad(1, chunkOf(30)), toDrop(1, chunkOf(20)))
	expectMsgs(t, n.Tick(2, nil, nil), w.haves(2, chunkOf(20))...)
	expectWaiting(t, n, 2)
	w.expectJust(n, chunkOf(20))
}

// TestTermWhileWaiting: P20.2, P20.4, orders that wait are done whatever term came behind them.
func TestTermWhileWaiting(t *testing.T) {
	w, _, n := rigged(t, ordinary())
	w.publish(chunkOf(0), chunkOf(10))
	tell(t, n, toLoad(1, chunkOf(0)))
	n.Tick(1, nil, nil)
	tell(t, n, toLoad(8, chunkOf(10)), toDrop(7, chunkOf(0)))
	expectWaiting(t, n, 2)
	n.Tick(2, w, w)
	w.expectJust(n, chunkOf(0), chunkOf(10))
	expectTerm(t, n, 8)
}
