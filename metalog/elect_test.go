package metalog

import (
	"testing"

	"gristmill/api"
	"gristmill/disk"
)

// notElected: an election is answered an error, and nothing with it; nothing changes.
func notElected(t *testing.T, l *Log, node int, want api.Errno) {
	t.Helper()
	expectUnchanged(t, l, func() {
		if s, code := l.Elect(node); code != want || !empty(s) {
			t.Fatalf("Elect %d: %v, %d, not %d", node, s, code, want)
		}
	})
}

// TestElect: P14.3, again and again, of any node from 0 on; Term is one more, all else is what it was.
func TestElect(t *testing.T) {
	d := disk.New()
	l := made(t, d, 2, 0, meta(3, 0, 0))
	do(t, l, api.Txn{Epoch: 1, Moves: []api.Move{{Stream: 1, To: 7}}})
	for at, node := range []int{0, 41, 41, great, 0, 0, 3} {
		if s := elect(t, l, node); s.Term != at+1 || s.Leader != node || s.Epoch != 2 || len(s.Metas) != 1 || s.Offsets[1] != 7 {
			t.Fatalf("%v", s)
		}
		expectState(t, opened(t, d, 2), l.State())
	}
}

// TestElectRefused: P14.3, a node below 0: ErrArg; ErrPower ahead of it.
func TestElectRefused(t *testing.T) {
	d := disk.New()
	l := made(t, d, 1, 2)
	for _, node := range []int{-1, -2, least} {
		notElected(t, l, node, api.ErrArg)
	}
	elect(t, l, 1)
	d.Cut(0)
	for _, node := range []int{-1, 0, 5} {
		notElected(t, l, node, api.ErrPower)
	}
	d.On()
	for _, node := range []int{-1, 0, 5} {
		notElected(t, l, node, api.ErrPower)
	}
}

// TestTermsGoOn: P14.2 and P14.3, behind an election the leader ahead of it is refused, the new one isn't.
func TestTermsGoOn(t *testing.T) {
	l := opened(t, disk.New(), 1)
	elect(t, l, 41)
	do(t, l, api.Txn{Term: 1})
	elect(t, l, 42)
	refused(t, l, api.Txn{Epoch: 1, Term: 1}, api.ErrTerm)
	do(t, l, api.Txn{Epoch: 1, Term: 2})
	do(t, l, api.Txn{Epoch: 2})
}

// snapshot: it is answered OK, and the state is what it was, also of a log that is opened then.
func snapshot(t *testing.T, l *Log) {
	t.Helper()
	state := l.State()
	expectCode(t, "Snapshot", l.Snapshot(), api.OK)
	expectState(t, l, state)
	expectState(t, opened(t, l.disk, len(state.Offsets)), state)
}

// TestSnapshot: P14.3, at once, behind many transactions, twice; the log goes on behind it.
func TestSnapshot(t *testing.T) {
	d := disk.New()
	l := opened(t, d, 2)
	snapshot(t, l)
	for at := range 300 {
		x := api.Txn{Epoch: at, Add: []api.Meta{meta(int64(at), 0, 0)}, Moves: []api.Move{{Stream: 1, From: uint64(at), To: uint64(at) + 1}}}
		if at >= 10 {
			x.Drop = []api.Seg{seg(int64(at-10), 0, 0)}
		}
		do(t, l, x)
		if at%3 == 0 {
			elect(t, l, at)
		}
	}
	length := logBytes(t, d)
	snapshot(t, l)
	snapshot(t, l)
	if logBytes(t, d) > length {
		t.Errorf("%d bytes, ahead of it %d", logBytes(t, d), length)
	}
	if s := l.State(); s.Epoch != 300 || s.Term != 100 || len(s.Metas) != 10 || s.Offsets[1] != 300 {
		t.Fatalf("%v", s)
	}
	do(t, l, api.Txn{Epoch: 300, Term: 100})
	elect(t, l, 1)
	snapshot(t, l)
	l = opened(t, d, 2)
	do(t, l, api.Txn{Epoch: 301, Term: 101})
}

// logBytes is how many bytes the log's files have.
func logBytes(t *testing.T, d *disk.Disk) int {
	t.Helper()
	n := 0
	for _, name := range d.List("m.") {
		b, code := d.Read(name)
		expectCode(t, "Read "+name, code, api.OK)
		n += len(b)
	}
	return n
}

// TestNoRoom: no room for one more file: ErrArg, and nothing changes; the log hasn't stopped, and goes on when there is room.
func TestNoRoom(t *testing.T) {
	d := disk.New()
	l := made(t, d, 2, 1, metasOf(3)...)
	fill(t, d, 1000)
	for range 2 {
		refused(t, l, api.Txn{Epoch: 1, Add: []api.Meta{meta(9, 0, 0)}}, api.ErrArg)
		refused(t, l, api.Txn{Epoch: 0, Add: []api.Meta{meta(9, 0, 0)}}, api.ErrEpoch)
		notElected(t, l, 5, api.ErrArg)
		expectUnchanged(t, l, func() { expectCode(t, "Snapshot", l.Snapshot(), api.ErrArg) })
	}
	expectState(t, opened(t, d, 2), l.State())
	expectCode(t, "Remove", d.Remove("other.500"), api.OK)
	do(t, l, api.Txn{Epoch: 1, Add: []api.Meta{meta(9, 0, 0)}})
	elect(t, l, 5)
	snapshot(t, l)
	if n := len(d.List("")); n != 999 {
		t.Errorf("%d files", n)
	}
}

// TestNoRoomOff: ErrPower, where there is no room, either.
func TestNoRoomOff(t *testing.T) {
	d := disk.New()
	l := made(t, d, 1, 1)
	fill(t, d, 1000)
	d.Cut(0)
	refused(t, l, api.Txn{Epoch: 1}, api.ErrPower)
	notElected(t, l, 5, api.ErrPower)
	expectCode(t, "Snapshot", l.Snapshot(), api.ErrPower)
	notOpened(t, d, 1, api.ErrPower)
}
