package metalog

import (
	"errors"
	"math"
	"slices"
	"strings"
	"testing"

	"gristmill/api"
	"gristmill/disk"
)

// TestExample: the document's table.
func TestExample(t *testing.T) {
	d := disk.New()
	l := opened(t, d, 2)
	expectState(t, l, api.State{Offsets: []uint64{0, 0}})
	a := api.Meta{Seg: api.Seg{Span: api.Span{To: 10}}, Blob: "a"}
	b := api.Seg{Span: api.Span{From: 20, To: 30}}
	s, code := l.Do(api.Txn{Add: []api.Meta{a}, Moves: []api.Move{{Stream: 1, From: 0, To: 5}}})
	if code != api.OK || !same(s, api.State{Epoch: 1, Metas: []api.Meta{a}, Offsets: []uint64{0, 5}}) {
		t.Fatalf("%v, %d", s, code)
	}
	refused(t, l, api.Txn{}, api.ErrEpoch)
	refused(t, l, api.Txn{Epoch: 1, Add: []api.Meta{a}}, api.ErrTwice)
	refused(t, l, api.Txn{Epoch: 1, Drop: []api.Seg{b}}, api.ErrNone)
	refused(t, l, api.Txn{Epoch: 1, Moves: []api.Move{{Stream: 1, From: 4, To: 6}}}, api.ErrMove)
	if s := elect(t, l, 3); s.Term != 1 || s.Leader != 3 {
		t.Fatalf("%v", s)
	}
	refused(t, l, api.Txn{Epoch: 1, Term: 2}, api.ErrTerm)
	if s := do(t, l, api.Txn{Epoch: 1, Term: 1}); s.Epoch != 2 {
		t.Fatalf("%v", s)
	}
	d.Cut(0)
	expectCode(t, "Snapshot", l.Snapshot(), api.ErrPower)
	d.On()
	refused(t, l, api.Txn{Epoch: 2}, api.ErrPower)
	expectState(t, opened(t, d, 2), api.State{Epoch: 2, Term: 1, Leader: 3, Metas: []api.Meta{a}, Offsets: []uint64{0, 5}})
}

// TestOpenStreams: P14.1, 1 to MaxStreams of them: the first state; none, or more: ErrArg, whatever the disk.
func TestOpenStreams(t *testing.T) {
	for streams := 1; streams <= 8; streams++ {
		expectState(t, opened(t, disk.New(), streams), first(streams))
	}
	for _, streams := range []int{math.MinInt, -1, 0, 9, 10, math.MaxInt} {
		off, other := disk.New(), disk.New()
		off.Cut(0)
		opened(t, other, 8)
		for _, d := range []*disk.Disk{nil, disk.New(), off, other} {
			ops := d.Ops()
			notOpened(t, d, streams, api.ErrArg)
			if d.Ops() != ops {
				t.Fatalf("%d operations", d.Ops()-ops)
			}
		}
	}
	for _, streams := range []int{1, 8} {
		notOpened(t, nil, streams, api.ErrArg)
	}
}

// TestOpenOff: P14.1, ErrPower while the power is off, also where there is a log, even of another number of streams; then it is as it was.
func TestOpenOff(t *testing.T) {
	bare, laid := disk.New(), disk.New()
	want := made(t, laid, 2, 1, meta(3, 0, 0)).State()
	for _, d := range []*disk.Disk{bare, laid} {
		ops := d.Ops()
		d.Cut(0)
		for _, streams := range []int{1, 2, 8} {
			notOpened(t, d, streams, api.ErrPower)
		}
		d.On()
		if d.Ops() != ops {
			t.Fatalf("%d operations", d.Ops()-ops)
		}
	}
	expectState(t, opened(t, laid, 2), want)
	expectState(t, opened(t, bare, 2), first(2))
}

// TestOpenOther: P14.1, a log of another number of streams: ErrForm, and it is left as it is; also one of which nothing was asked yet.
func TestOpenOther(t *testing.T) {
	for had := 1; had <= 8; had++ {
		d := disk.New()
		l := opened(t, d, had)
		othersRefused(t, l, had)
		do(t, l, api.Txn{Add: metasOf(2)})
		othersRefused(t, l, had)
		expectState(t, opened(t, d, had), l.State())
	}
}

func othersRefused(t *testing.T, l *Log, had int) {
	t.Helper()
	for streams := 1; streams <= 8; streams++ {
		if streams != had {
			expectUnchanged(t, l, func() { notOpened(t, l.disk, streams, api.ErrForm) })
		}
	}
}

// TestOpenAgain: P14.1, the state that it had, however often; it goes on from there.
func TestOpenAgain(t *testing.T) {
	d := disk.New()
	want := made(t, d, 2, 2, meta(7, 1, 2), meta(3, 0, 0)).State()
	for range 5 {
		l := opened(t, d, 2)
		expectState(t, l, want)
		l = opened(t, d, 2)
		do(t, l, api.Txn{Epoch: want.Epoch, Moves: []api.Move{{Stream: 1, From: want.Offsets[1], To: want.Offsets[1] + 4}}})
		want = elect(t, l, want.Term)
	}
	if want.Epoch != 6 || want.Term != 7 || want.Offsets[1] != 20 {
		t.Fatalf("%v", want)
	}
}

// TestAllOfTheState: P14.1, the greatest and least numbers of all parts are there again.
func TestAllOfTheState(t *testing.T) {
	const most = 1 << 40
	d := disk.New()
	l := opened(t, d, 8)
	great := api.Seg{Span: api.Span{From: most - 1, To: most}, Version: math.MaxInt, Part: math.MaxInt, Core: math.MaxInt}
	metas := []api.Meta{
		{Seg: api.Seg{Span: api.Span{From: 0, To: 1}}, Blob: "!"},
		{Seg: api.Seg{Span: api.Span{From: 0, To: most}}, Blob: strings.Repeat("~", 62), Sum: math.MaxUint32, Rows: math.MaxInt},
		{Seg: great, Blob: "x", Sum: 1 << 31, Rows: 1},
	}
	do(t, l, api.Txn{Add: metas, Moves: []api.Move{{Stream: 7, To: math.MaxUint64}, {Stream: 0, To: 1 << 63}, {Stream: 3, To: 1}}})
	want := elect(t, l, math.MaxInt)
	if !slices.Equal(want.Metas, metas) || !slices.Equal(want.Offsets, []uint64{1 << 63, 0, 0, 1, 0, 0, 0, math.MaxUint64}) {
		t.Fatalf("%v", want)
	}
	expectState(t, opened(t, d, 8), want)
}

// TestOthersFiles: files of others, `m` and names that only begin with this letter among them, stay as they are whatever the log does; its own names begin with `m.`.
func TestOthersFiles(t *testing.T) {
	names := []string{"!m.x", "M.x", "am.x", "b.m", "b.x", "l.log", "m", "m!", "m-x", "mm", "mm.x", "mx.", "n.x", "t.x"}
	d := disk.New()
	var files []string
	for at, name := range names {
		files = append(files, name, strings.Repeat("z", at))
	}
	lay(t, d, files...)
	others := func() {
		t.Helper()
		var got []string
		for _, name := range d.List("") {
			if !strings.HasPrefix(name, "m.") {
				b, _ := d.Read(name)
				got = append(got, name, string(b))
			}
		}
		if !slices.Equal(got, files) {
			t.Fatalf("files: %q, not %q", got, files)
		}
	}
	l := opened(t, d, 1)
	others()
	for _, name := range names {
		expectCode(t, "Sync "+name, d.Sync(name), api.OK)
	}
	do(t, l, api.Txn{Add: metasOf(3)})
	elect(t, l, 5)
	expectCode(t, "Snapshot", l.Snapshot(), api.OK)
	others()
	for op := range 3 {
		d.CutAt(d.Ops()+op, 9)
		_, code := l.Do(api.Txn{Epoch: 1})
		expectCode(t, "Do", code, api.ErrPower)
		d.On()
		others()
		l = opened(t, d, 1)
		others()
	}
}

// TestOpenNoRoom: no room for one more file: ErrArg, and no file of the log's; a log that is there is opened all the same.
func TestOpenNoRoom(t *testing.T) {
	d := disk.New()
	fill(t, d, 1000)
	files, ops := filesOf(d), d.Ops()
	for range 3 {
		notOpened(t, d, 1, api.ErrArg)
	}
	if !slices.Equal(filesOf(d), files) || d.Ops() != ops {
		t.Fatal("something was changed")
	}
	expectCode(t, "Remove", d.Remove("other.500"), api.OK)
	l := opened(t, d, 1)
	if len(d.List("")) != 1000 {
		t.Fatalf("%d files", len(d.List("")))
	}
	expectUnchanged(t, l, func() { expectState(t, opened(t, d, 1), first(1)) })
	expectUnchanged(t, l, func() { notOpened(t, d, 2, api.ErrForm) })
}

// TestOpenDamaged: a file of the log's that isn't what a log wrote: ErrForm, and it is left as it is.
func TestOpenDamaged(t *testing.T) {
	d := disk.New()
	made(t, d, 2, 1, meta(3, 0, 0), meta(4, 0, 0))
	whole, _ := d.Read(stateFile)
	damaged := func(b []byte) {
		t.Helper()
		d := disk.New()
		lay(t, d, stateFile, string(b))
		notOpened(t, d, 2, api.ErrForm)
		if got := filesOf(d); !slices.Equal(got, []string{stateFile, string(b)}) || d.Ops() != 1 {
			t.Fatalf("files: %q", got)
		}
	}
	for at := range whole {
		damaged(whole[:at])
		flipped := slices.Clone(whole)
		flipped[at] ^= 16
		damaged(flipped)
	}
	damaged(append(slices.Clone(whole), 0))
}

// TestParse: bytes that end too early, or too late, are no state's.
func TestParse(t *testing.T) {
	b := body(api.State{Epoch: 9, Term: 300, Leader: 1, Metas: metasOf(3), Offsets: []uint64{1, 2, 3}})
	if s, err := parse(b); err != nil || len(s.Metas) != 3 {
		t.Fatalf("%v, %v", s, err)
	}
	for n := range b {
		if s, err := parse(b[:n]); !errors.Is(err, api.ErrForm) || !empty(s) {
			t.Fatalf("%d bytes: %v, %v", n, s, err)
		}
	}
	if s, err := parse(append(b, 0)); !errors.Is(err, api.ErrForm) || !empty(s) {
		t.Fatalf("one more: %v, %v", s, err)
	}
}

// TestFault: what goes wrong below tells what was being done, and wraps the number.
func TestFault(t *testing.T) {
	d := disk.New()
	d.Cut(0)
	err := keep(d, first(1))
	if !errors.Is(err, api.ErrPower) || codeOf(err) != api.ErrPower || err.Error() != "gristmill: clearing the draft: gristmill: error 122" {
		t.Fatalf("%v", err)
	}
	if while("anything", api.OK) != nil || codeOf(nil) != api.OK {
		t.Fatal("nothing went wrong")
	}
}

// TestNil: every call of a nil log: ErrArg, a state of nothing, and no panic; one that Open didn't make is none, either.
func TestNil(t *testing.T) {
	for _, l := range []*Log{nil, {}} {
		for _, txn := range []api.Txn{{}, {Epoch: 1}, {Term: -1}, {Add: metasOf(2), Drop: []api.Seg{seg(1, 0, 0)}, Moves: []api.Move{{}}}} {
			if s, code := l.Do(txn); code != api.ErrArg || !empty(s) {
				t.Errorf("Do: %v, %d", s, code)
			}
		}
		for _, node := range []int{-1, 0, 7} {
			if s, code := l.Elect(node); code != api.ErrArg || !empty(s) {
				t.Errorf("Elect: %v, %d", s, code)
			}
		}
		if code := l.Snapshot(); code != api.ErrArg {
			t.Errorf("Snapshot: %d", code)
		}
		if s := l.State(); !empty(s) {
			t.Errorf("State: %v", s)
		}
	}
}
