package metalog

import (
	"fmt"
	"slices"
	"strconv"
	"strings"
	"testing"

	"gristmill/api"
	"gristmill/disk"
)

// stream tells numbers that look thrown, the same ones at each run.
type stream uint64

func (s *stream) below(n int) int {
	*s = *s*6364136223846793005 + 1442695040888963407
	return int(uint64(*s) >> 31 % uint64(n))
}

// seg is a segment of the length 10.
func seg(from int64, version, part int) api.Seg {
	return api.Seg{Span: api.Span{From: from, To: from + 10}, Version: version, Part: part, Core: 1}
}

// meta is such a segment that was published.
func meta(from int64, version, part int) api.Meta {
	blob := fmt.Sprintf("s-%d-%d-%d", from, version, part)
	return api.Meta{Seg: seg(from, version, part), Blob: blob, Sum: uint32(from * 77777777), Rows: part + 3}
}

// metasOf are so many of them, in their order.
func metasOf(n int) []api.Meta {
	var metas []api.Meta
	for at := range n {
		metas = append(metas, meta(int64(at), 0, 0))
	}
	return metas
}

// first is a log's first state.
func first(streams int) api.State { return api.State{Offsets: make([]uint64, streams)} }

// same holds two states against each other; nil and empty lists are one.
func same(a, b api.State) bool {
	return a.Epoch == b.Epoch && a.Term == b.Term && a.Leader == b.Leader && slices.Equal(a.Metas, b.Metas) && slices.Equal(a.Offsets, b.Offsets)
}

// key is a text of what makes two segments one; such texts rise as the segments do, as none of their numbers is below 0.
func key(s api.Seg) string {
	return fmt.Sprintf("%020d %020d %020d %020d", s.Span.From, s.Span.To, s.Version, s.Part)
}

func plainSegment(s api.Seg) bool {
	const most = 1099511627776
	return min(s.Span.From, int64(s.Version), int64(s.Part), int64(s.Core)) >= 0 && s.Span.To > s.Span.From && s.Span.To <= most
}

func plainMeta(m api.Meta) bool {
	odd := func(r rune) bool { return r < '!' || r > '~' }
	return plainSegment(m.Seg) && m.Blob != "" && len(m.Blob) < 63 && !strings.ContainsFunc(m.Blob, odd) && m.Rows > -1
}

// plainTxn tells whether a transaction may be, by the document's words.
func plainTxn(t api.Txn, streams int) bool {
	for _, m := range t.Add {
		if !plainMeta(m) {
			return false
		}
	}
	for _, s := range t.Drop {
		if !plainSegment(s) {
			return false
		}
	}
	for at, m := range t.Moves {
		again := slices.ContainsFunc(t.Moves[:at], func(o api.Move) bool { return o.Stream == m.Stream })
		if m.Stream < 0 || m.Stream > streams-1 || again {
			return false
		}
	}
	return t.Term > -1 && (t.Wipe.To <= t.Wipe.From || t.Wipe.From > -1 && t.Wipe.To <= 1099511627776)
}

// plain is the state behind a transaction, or why it is refused, by the document's words.
func plain(s api.State, t api.Txn) (api.State, api.Errno) {
	code := api.OK
	refused := func(because api.Errno) {
		if code == api.OK {
			code = because
		}
	}
	if !plainTxn(t, len(s.Offsets)) {
		return api.State{}, api.ErrArg
	}
	if t.Epoch != s.Epoch {
		refused(api.ErrEpoch)
	}
	if t.Term != 0 && t.Term != s.Term {
		refused(api.ErrTerm)
	}
	offsets := slices.Clone(s.Offsets)
	for _, m := range t.Moves {
		if m.From != offsets[m.Stream] || m.To < m.From {
			refused(api.ErrMove)
		}
		offsets[m.Stream] = m.To
	}
	there, keys := map[string]api.Meta{}, map[string]int{}
	for _, m := range s.Metas {
		there[key(m.Seg)] = m
	}
	for _, m := range t.Add {
		keys[key(m.Seg)]++
		if _, old := there[key(m.Seg)]; old || keys[key(m.Seg)] > 1 {
			refused(api.ErrTwice)
		}
	}
	for _, seg := range t.Drop {
		if _, old := there[key(seg)]; !old {
			refused(api.ErrNone)
		}
		delete(there, key(seg))
	}
	for _, m := range t.Add {
		there[key(m.Seg)] = m
	}
	if len(there) > 1000 {
		refused(api.ErrLimit)
	}
	if code != api.OK {
		return api.State{}, code
	}
	next := api.State{Epoch: s.Epoch + 1, Term: s.Term, Leader: s.Leader, Offsets: offsets}
	for _, m := range there {
		next.Metas = append(next.Metas, m)
	}
	slices.SortFunc(next.Metas, func(a, b api.Meta) int { return strings.Compare(key(a.Seg), key(b.Seg)) })
	return next, api.OK
}

// opened is the log on a disk that may be opened.
func opened(t *testing.T, d *disk.Disk, streams int) *Log {
	t.Helper()
	l, code := Open(d, streams)
	if code != api.OK || l == nil {
		t.Fatalf("Open: %v, %d", l, code)
	}
	return l
}

// notOpened: Open answers an error, and no log.
func notOpened(t *testing.T, d *disk.Disk, streams int, want api.Errno) {
	t.Helper()
	if l, code := Open(d, streams); code != want || l != nil {
		t.Fatalf("Open of %d streams: %v, %d, not %d", streams, l, code, want)
	}
}

// made is a log with such a state, reached by one transaction and so many elections.
func made(t *testing.T, d *disk.Disk, streams, elections int, metas ...api.Meta) *Log {
	t.Helper()
	l := opened(t, d, streams)
	do(t, l, api.Txn{Add: metas})
	for at := range elections {
		elect(t, l, 41+at)
	}
	return l
}

// do: a transaction is answered OK, with the state behind it, which the log has then.
func do(t *testing.T, l *Log, txn api.Txn) api.State {
	t.Helper()
	want, code := plain(l.State(), txn)
	if code != api.OK {
		t.Fatalf("%v may not be done: %d", txn, code)
	}
	got, code := l.Do(txn)
	if code != api.OK || !same(got, want) || !same(l.State(), want) {
		t.Fatalf("Do: %v, %d, not %v", got, code, want)
	}
	return want
}

// elect: an election is answered OK, with the state behind it, which the log has then.
func elect(t *testing.T, l *Log, node int) api.State {
	t.Helper()
	want := l.State()
	want.Term, want.Leader = want.Term+1, node
	got, code := l.Elect(node)
	if code != api.OK || !same(got, want) || !same(l.State(), want) {
		t.Fatalf("Elect %d: %v, %d, not %v", node, got, code, want)
	}
	return want
}

// refused: a transaction is answered an error, and nothing with it; neither the log nor the disk is changed.
func refused(t *testing.T, l *Log, txn api.Txn, want api.Errno) {
	t.Helper()
	expectUnchanged(t, l, func() {
		if got, code := l.Do(txn); code != want || !empty(got) {
			t.Fatalf("Do of %v: %v, %d, not %d", txn, got, code, want)
		}
	})
}

// judged holds a transaction against the document's words.
func judged(t *testing.T, l *Log, txn api.Txn) {
	t.Helper()
	if _, code := plain(l.State(), txn); code != api.OK {
		refused(t, l, txn, code)
	} else {
		do(t, l, txn)
	}
}

func empty(s api.State) bool {
	return s.Epoch == 0 && s.Term == 0 && s.Leader == 0 && s.Metas == nil && s.Offsets == nil
}

// expectUnchanged: a call changes neither the log's state nor a file, and is no operation.
func expectUnchanged(t *testing.T, l *Log, call func()) {
	t.Helper()
	state, files, ops := l.State(), filesOf(l.disk), l.disk.Ops()
	call()
	if !same(l.State(), state) {
		t.Fatalf("State: %v, not %v", l.State(), state)
	}
	if !slices.Equal(filesOf(l.disk), files) || l.disk.Ops() != ops {
		t.Fatalf("files: %.300q, not %.300q; %d operations, not %d", filesOf(l.disk), files, l.disk.Ops(), ops)
	}
}

func expectState(t *testing.T, l *Log, want api.State) {
	t.Helper()
	if got := l.State(); !same(got, want) {
		t.Fatalf("State: %v, not %v", got, want)
	}
}

func expectCode(t *testing.T, what string, got, want api.Errno) {
	t.Helper()
	if got != want {
		t.Fatalf("%s: %d, not %d", what, got, want)
	}
}

// filesOf are a disk's files: name, bytes, name, bytes .., rising; nothing while the power is off.
func filesOf(d *disk.Disk) []string {
	var files []string
	for _, name := range d.List("") {
		b, _ := d.Read(name)
		files = append(files, name, string(b))
	}
	return files
}

// lay appends to files: name, bytes, name, bytes ..; nothing of it is synced.
func lay(t *testing.T, d *disk.Disk, files ...string) {
	t.Helper()
	for at := 0; at < len(files); at += 2 {
		expectCode(t, "Append "+files[at], d.Append(files[at], []byte(files[at+1])), api.OK)
	}
}

// fill makes files of others till there are so many in all.
func fill(t *testing.T, d *disk.Disk, files int) {
	t.Helper()
	for at := len(d.List("")); at < files; at++ {
		lay(t, d, "other."+strconv.Itoa(at), "")
	}
}
