package metalog

import (
	"fmt"
	"strings"
	"testing"

	"gristmill/api"
	"gristmill/disk"
)

// mostOps is more operations than any call of a log takes.
const mostOps = 7

// call is something that is asked of a log.
type call struct {
	name string
	ask  func(*Log) api.Errno
	to   func(api.State) api.State // the state that it leads to
}

func doing(x api.Txn) call {
	return call{"Do", func(l *Log) api.Errno {
		x.Epoch = l.State().Epoch
		_, code := l.Do(x)
		return code
	}, func(s api.State) api.State {
		x.Epoch = s.Epoch
		next, code := plain(s, x)
		if code != api.OK {
			panic(fmt.Sprintf("a call that may not be: %d", code))
		}
		return next
	}}
}

func electing(node int) call {
	return call{"Elect", func(l *Log) api.Errno {
		_, code := l.Elect(node)
		return code
	}, func(s api.State) api.State {
		s.Term, s.Leader = s.Term+1, node
		return s
	}}
}

func shortening() call {
	return call{"Snapshot", (*Log).Snapshot, func(s api.State) api.State { return s }}
}

// someCalls are such that each one may be behind those ahead of it.
func someCalls() []call {
	return []call{
		doing(api.Txn{Add: []api.Meta{meta(5, 0, 0), meta(1, 0, 0)}, Moves: []api.Move{{Stream: 1, To: 300}}}),
		electing(41),
		doing(api.Txn{Add: []api.Meta{meta(1, 1, 0)}, Drop: []api.Seg{seg(1, 0, 0)}, Moves: []api.Move{{To: 9}, {Stream: 1, From: 300, To: 301}}}),
		shortening(),
		electing(0),
		doing(api.Txn{Drop: []api.Seg{seg(5, 0, 0), seg(1, 1, 0)}}),
	}
}

// cutAsk asks while the power goes off at the operation so many further on. The answer is ErrPower just if it went off; the state then is the last one.
func cutAsk(t *testing.T, d *disk.Disk, l *Log, c call, op, part int) bool {
	t.Helper()
	ahead := l.State()
	d.CutAt(d.Ops()+op, part)
	code := c.ask(l)
	d.CutAt(-1, 0)
	if !d.Off() {
		expectCode(t, c.name, code, api.OK)
		expectState(t, l, c.to(ahead))
		return false
	}
	expectCode(t, c.name, code, api.ErrPower)
	expectState(t, l, ahead)
	d.On()
	expectStopped(t, l)
	return true
}

// expectStopped: all that is asked of a log is refused, though the power is on; what it knows it still tells.
func expectStopped(t *testing.T, l *Log) {
	t.Helper()
	if l.disk.Off() {
		t.Fatal("the power is off")
	}
	for range 2 {
		refused(t, l, api.Txn{Epoch: l.State().Epoch}, api.ErrPower)
		refused(t, l, api.Txn{Term: -1}, api.ErrPower)
		notElected(t, l, 3, api.ErrPower)
		notElected(t, l, -1, api.ErrPower)
		expectUnchanged(t, l, func() { expectCode(t, "Snapshot", l.Snapshot(), api.ErrPower) })
	}
}

// cutOpen opens a log while the power goes off at the operation so many further on: then it is opened once more.
func cutOpen(t *testing.T, d *disk.Disk, streams, op, part int) *Log {
	t.Helper()
	d.CutAt(d.Ops()+op, part)
	l, code := Open(d, streams)
	d.CutAt(-1, 0)
	if !d.Off() {
		expectCode(t, "Open", code, api.OK)
		return l
	}
	if code != api.ErrPower || l != nil {
		t.Fatalf("Open: %v, %d", l, code)
	}
	d.On()
	return opened(t, d, streams)
}

// foundOne: a log has one of two states, which it is.
func foundOne(t *testing.T, l *Log, a, b api.State) api.State {
	t.Helper()
	got := l.State()
	if !same(got, a) && !same(got, b) {
		t.Fatalf("State: %v, neither %v nor %v", got, a, b)
	}
	return got
}

// TestFirstOpenCut: P14.1 and P14.4, the power goes off at each operation of the very first Open, once and again: the next one finds the first state, or nothing.
func TestFirstOpenCut(t *testing.T) {
	cuts := 0
	for op := range mostOps {
		for later := range mostOps {
			for _, part := range []int{-1, 0, 1, 4, 8, 9, 12, 13, 99} {
				d := disk.New()
				d.CutAt(op, part)
				l, code := Open(d, 3)
				if d.Off() != (code == api.ErrPower) || (l == nil) != d.Off() || code != api.ErrPower && code != api.OK {
					t.Fatalf("Open: %v, %d", l, code)
				}
				if code == api.ErrPower {
					cuts++
				}
				notOpenedOff(t, d)
				l = cutOpen(t, d, 3, later, part)
				expectState(t, l, first(3))
				do(t, l, api.Txn{Add: metasOf(2)})
				expectState(t, opened(t, d, 3), l.State())
			}
		}
	}
	if cuts < 9*mostOps {
		t.Errorf("the power went off %d times within Open", cuts)
	}
}

// notOpenedOff: while the power is off nothing is opened; it is on then.
func notOpenedOff(t *testing.T, d *disk.Disk) {
	t.Helper()
	if d.Off() {
		notOpened(t, d, 3, api.ErrPower)
	}
	d.On()
}

// longestFile is how many bytes the log's files have at most in these tests, and one more.
func longestFile(t *testing.T) int {
	t.Helper()
	d := disk.New()
	l, longest := opened(t, d, 2), 0
	for _, c := range someCalls() {
		expectCode(t, c.name, c.ask(l), api.OK)
		longest = max(longest, logBytes(t, d))
	}
	return longest + 1
}

// TestEachCut: P14.4, the power goes off at each operation of each call, with every part: what is opened then has the state ahead of the call, or the one behind it, all of it; it stays so, and goes on from there.
func TestEachCut(t *testing.T) {
	parts := longestFile(t)
	cuts := map[string]int{}
	for at, c := range someCalls() {
		for op := range mostOps {
			for part := -1; part <= parts; part++ {
				d := disk.New()
				l := opened(t, d, 2)
				for _, ahead := range someCalls()[:at] {
					expectCode(t, ahead.name, ahead.ask(l), api.OK)
				}
				old := l.State()
				if !cutAsk(t, d, l, c, op, part) {
					expectState(t, opened(t, d, 2), c.to(old))
					continue
				}
				cuts[c.name]++
				found := foundOne(t, opened(t, d, 2), old, c.to(old))
				d.Cut(0)
				d.On()
				l = opened(t, d, 2)
				expectState(t, l, found)
				do(t, l, api.Txn{Epoch: found.Epoch, Add: []api.Meta{meta(77, 0, 0)}})
				elect(t, l, 5)
				expectState(t, opened(t, d, 2), l.State())
			}
		}
	}
	if cuts["Do"] == 0 || cuts["Elect"] == 0 {
		t.Errorf("the power went off within %v", cuts)
	}
}

// TestCutsOneBehindAnother: P14.4, three cuts, each within what comes behind the one ahead of it, also within the openings.
func TestCutsOneBehindAnother(t *testing.T) {
	calls := someCalls()[:3]
	for ops := range mostOps * mostOps * mostOps {
		for _, part := range []int{0, 11, 60, 999} {
			d := disk.New()
			l := cutOpen(t, d, 2, ops%mostOps, part)
			state := first(2)
			expectState(t, l, state)
			for at, c := range calls {
				op := []int{ops / mostOps % mostOps, ops / mostOps / mostOps, ops % mostOps}[at]
				next := c.to(state)
				if cutAsk(t, d, l, c, op, part) {
					l = cutOpen(t, d, 2, at, part)
					state = foundOne(t, l, state, next)
				} else {
					state = next
				}
				if !same(state, next) {
					// It isn't there: it is asked anew.
					expectCode(t, c.name, c.ask(l), api.OK)
					state = next
				}
				expectState(t, l, state)
			}
			expectState(t, opened(t, d, 2), state)
		}
	}
}

// TestFindsTheOff: P14.2 and P14.3, a call that finds the power off stops the log, whatever it asks; another one may be opened.
func TestFindsTheOff(t *testing.T) {
	calls := map[string]func(*Log) api.Errno{
		"Do":              func(l *Log) api.Errno { _, code := l.Do(api.Txn{Epoch: 1}); return code },
		"Do of no such":   func(l *Log) api.Errno { _, code := l.Do(api.Txn{Term: -1}); return code },
		"Do of an epoch":  func(l *Log) api.Errno { _, code := l.Do(api.Txn{Epoch: 8}); return code },
		"Elect":           func(l *Log) api.Errno { _, code := l.Elect(3); return code },
		"Elect of no one": func(l *Log) api.Errno { _, code := l.Elect(-1); return code },
		"Snapshot":        (*Log).Snapshot,
	}
	for name, ask := range calls {
		d := disk.New()
		l := made(t, d, 1, 1, metasOf(3)...)
		want := l.State()
		d.Cut(0)
		expectCode(t, name, ask(l), api.ErrPower)
		expectState(t, l, want)
		d.On()
		expectStopped(t, l)
		expectState(t, l, want)
		l = opened(t, d, 1)
		expectState(t, l, want)
		do(t, l, api.Txn{Epoch: 1})
	}
}

// TestCutBetween: P14.4, the power goes off and on between calls, of which the log finds nothing: all that was answered OK is there, and it goes on.
func TestCutBetween(t *testing.T) {
	for _, part := range []int{-1, 0, 5, 999} {
		d := disk.New()
		blink := func() {
			d.Cut(part)
			d.On()
		}
		l := opened(t, d, 2)
		blink()
		for _, c := range someCalls() {
			want := c.to(l.State())
			expectCode(t, c.name, c.ask(l), api.OK)
			blink()
			expectState(t, l, want)
			expectState(t, opened(t, d, 2), want)
		}
	}
}

// TestStateOff: P14.1, State tells what is known while the power is off.
func TestStateOff(t *testing.T) {
	d := disk.New()
	l := made(t, d, 2, 1, metasOf(2)...)
	want := l.State()
	d.Cut(0)
	expectState(t, l, want)
	expectCode(t, "Snapshot", l.Snapshot(), api.ErrPower)
	expectState(t, l, want)
}

// TestManyCut: P14.4, a transaction of many metas, cut at each operation.
func TestManyCut(t *testing.T) {
	for op := range mostOps {
		for _, part := range []int{0, 1000, 20000, 1 << 30} {
			d := disk.New()
			l := made(t, d, 1, 0, metasOf(1000)...)
			x := api.Txn{Add: unheard(500), Moves: []api.Move{{To: 9}}}
			for at := range 500 {
				x.Drop = append(x.Drop, seg(int64(at), 0, 0))
			}
			old, c := l.State(), doing(x)
			cutAsk(t, d, l, c, op, part)
			foundOne(t, opened(t, d, 1), old, c.to(old))
		}
	}
}

// throwTxn is a transaction that may be done, or that is refused for some reason.
func throwTxn(thrown *stream, s api.State) api.Txn {
	x := api.Txn{Epoch: s.Epoch}
	throwSeg := func() api.Seg { return seg(int64(thrown.below(4)), thrown.below(2), thrown.below(2)) }
	for range thrown.below(3) {
		x.Add = append(x.Add, api.Meta{Seg: throwSeg(), Blob: strings.Repeat("b", 1+thrown.below(30)), Rows: thrown.below(9)})
	}
	if len(s.Metas) > 0 && thrown.below(3) == 0 {
		x.Drop = append(x.Drop, s.Metas[thrown.below(len(s.Metas))].Seg)
	}
	if thrown.below(2) == 0 {
		stream := thrown.below(2)
		x.Moves = append(x.Moves, api.Move{Stream: stream, From: s.Offsets[stream], To: s.Offsets[stream] + uint64(thrown.below(200))})
	}
	switch thrown.below(12) {
	case 0:
		x.Epoch += thrown.below(3) - 1
	case 1:
		x.Term = thrown.below(4) - 1
	case 2:
		x.Drop = append(x.Drop, throwSeg())
	case 3:
		x.Moves = append(x.Moves, api.Move{Stream: thrown.below(4) - 1, From: uint64(thrown.below(3)), To: uint64(thrown.below(3))})
	}
	return x
}

// TestThrown: P14.1 to P14.4, calls and cuts one behind the other, against what the document's words say.
func TestThrown(t *testing.T) {
	for seed := range 300 {
		thrown := stream(seed)
		d := disk.New()
		l, state := opened(t, d, 2), first(2)
		for range 80 {
			next, want := state, api.OK
			d.CutAt(d.Ops()+thrown.below(12), thrown.below(150)-1)
			code, got := api.OK, state
			switch thrown.below(6) {
			case 0:
				code = l.Snapshot()
			case 1:
				node := thrown.below(5) - 1
				if want = api.ErrArg; node >= 0 {
					next.Term, next.Leader, want = state.Term+1, node, api.OK
				}
				got, code = l.Elect(node)
			default:
				x := throwTxn(&thrown, state)
				if next, want = plain(state, x); want != api.OK {
					next = state
				}
				got, code = l.Do(x)
			}
			d.CutAt(-1, 0)
			if code == api.ErrPower {
				expectState(t, l, state)
				d.On()
				l = opened(t, d, 2)
				state = foundOne(t, l, state, next)
				continue
			}
			expectCode(t, "a call", code, want)
			if code == api.OK && !same(got, next) || code != api.OK && !empty(got) {
				t.Fatalf("%v, %d", got, code)
			}
			state = next
			expectState(t, l, state)
			if thrown.below(5) == 0 {
				l = opened(t, d, 2)
				expectState(t, l, state)
			}
		}
	}
}
