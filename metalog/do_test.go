package metalog

import (
	"math"
	"slices"
	"strings"
	"testing"

	"gristmill/api"
	"gristmill/disk"
)

const (
	least = math.MinInt
	great = math.MaxInt
	most  = 1 << 40 // the last moment's end
)

// TestDo: P14.2, the state behind transactions of all kinds, one behind the other.
func TestDo(t *testing.T) {
	l := opened(t, disk.New(), 3)
	a, b, c := meta(10, 0, 0), meta(10, 0, 1), meta(20, 0, 0)
	expect := func(s api.State, epoch int, metas []api.Meta, offsets ...uint64) {
		t.Helper()
		if !same(s, api.State{Epoch: epoch, Metas: metas, Offsets: offsets}) {
			t.Fatalf("%v", s)
		}
	}
	expect(do(t, l, api.Txn{}), 1, nil, 0, 0, 0)
	expect(do(t, l, api.Txn{Epoch: 1, Add: []api.Meta{c, a}}), 2, []api.Meta{a, c}, 0, 0, 0)
	expect(do(t, l, api.Txn{Epoch: 2, Add: []api.Meta{b}, Drop: []api.Seg{c.Seg}, Moves: []api.Move{{Stream: 2, To: 7}, {Stream: 0, To: 1}}}), 3, []api.Meta{a, b}, 1, 0, 7)
	expect(do(t, l, api.Txn{Epoch: 3, Drop: []api.Seg{b.Seg, a.Seg}, Moves: []api.Move{{Stream: 2, From: 7, To: 9}}, Wipe: api.Span{From: 3, To: 9}}), 4, nil, 1, 0, 9)
	expect(do(t, l, api.Txn{Epoch: 4, Add: []api.Meta{c}}), 5, []api.Meta{c}, 1, 0, 9)
}

// defects are what may be wrong with a transaction, in the order in which it is told, each made without another.
func defects() []struct {
	code  api.Errno
	spoil func(*api.Txn)
} {
	return []struct {
		code  api.Errno
		spoil func(*api.Txn)
	}{
		{api.ErrArg, func(x *api.Txn) { x.Wipe = api.Span{From: -1, To: 5} }},
		{api.ErrEpoch, func(x *api.Txn) { x.Epoch++ }},
		{api.ErrTerm, func(x *api.Txn) { x.Term = 9 }},
		{api.ErrMove, func(x *api.Txn) { x.Moves = []api.Move{{Stream: 1, From: 1, To: 2}} }},
		{api.ErrTwice, func(x *api.Txn) { x.Add = append(x.Add, meta(7, 0, 0)) }},
		{api.ErrNone, func(x *api.Txn) { x.Drop = []api.Seg{seg(7, 1, 0)} }},
		{api.ErrLimit, func(x *api.Txn) { x.Add = append(x.Add, meta(1, 1, 0), meta(2, 1, 0)) }},
	}
}

// TestWhichFirst: P14.2, of all that is wrong at once the first one is told, ErrPower ahead of all; nothing changes.
func TestWhichFirst(t *testing.T) {
	d := disk.New()
	l := made(t, d, 2, 1, metasOf(1000)...)
	spoilt := func(which int) (api.Txn, api.Errno) {
		x, code := api.Txn{Epoch: 1, Term: 1}, api.OK
		for at, d := range defects() {
			if which>>at&1 == 1 {
				d.spoil(&x)
				if code == api.OK {
					code = d.code
				}
			}
		}
		return x, code
	}
	for which := 1; which < 1<<len(defects()); which++ {
		x, code := spoilt(which)
		refused(t, l, x, code)
	}
	for which := range 1 << len(defects()) {
		d := disk.New()
		l := made(t, d, 2, 1, metasOf(10)...)
		x, _ := spoilt(which)
		d.Cut(0)
		refused(t, l, x, api.ErrPower)
		d.On()
		refused(t, l, x, api.ErrPower)
	}
	x, _ := spoilt(0)
	do(t, l, x)
}

// segments are the edges of what a segment may be.
func segments() []api.Seg {
	span := func(from, to int64) api.Seg { return api.Seg{Span: api.Span{From: from, To: to}, Version: 5} }
	all := []api.Seg{
		span(0, 1), span(0, most), span(most-1, most), span(5, 6),
		span(-1, 1), span(-1, 0), span(-2, -1), span(least, great), span(least, 5), span(0, 0), span(5, 5), span(6, 5), span(most, most),
		span(0, most+1), span(most, most+1), span(0, great), span(great, least), span(0, -1), span(3, least),
	}
	for _, n := range []int{least, -1, 0, 1, great} {
		s := span(8, 9)
		all = append(all, api.Seg{Span: s.Span, Version: n}, api.Seg{Span: s.Span, Version: 4, Part: n}, api.Seg{Span: s.Span, Version: 3, Core: n})
	}
	return all
}

// TestSegments: P14.2, segments that may be, and that may not, in Add and in Drop, whatever stands beside them.
func TestSegments(t *testing.T) {
	may := 0
	for _, s := range segments() {
		l := made(t, disk.New(), 1, 0, meta(3, 0, 0))
		m := api.Meta{Seg: s, Blob: "b"}
		if plainSegment(s) {
			may++
			refused(t, l, api.Txn{Epoch: 1, Drop: []api.Seg{s}}, api.ErrNone)
			do(t, l, api.Txn{Epoch: 1, Add: []api.Meta{m}})
			do(t, l, api.Txn{Epoch: 2, Drop: []api.Seg{s}})
			continue
		}
		for _, add := range [][]api.Meta{{m}, {m, meta(4, 0, 0)}, {meta(4, 0, 0), m}} {
			refused(t, l, api.Txn{Epoch: 1, Add: add}, api.ErrArg)
		}
		for _, drop := range [][]api.Seg{{s}, {s, seg(3, 0, 0)}, {seg(3, 0, 0), s}} {
			refused(t, l, api.Txn{Epoch: 1, Drop: drop}, api.ErrArg)
		}
	}
	if may != 4+3*3 {
		t.Errorf("%d of them may be", may)
	}
}

// TestBlobs: P14.2, names of blobs: of 0, 1, 62 and 63 bytes, with each byte at each place.
func TestBlobs(t *testing.T) {
	l := opened(t, disk.New(), 1)
	try := func(blob string, may bool) {
		t.Helper()
		m := meta(3, 0, 0)
		m.Blob = blob
		if plainMeta(m) != may {
			t.Fatalf("%q", blob)
		}
		epoch := l.State().Epoch
		if !may {
			refused(t, l, api.Txn{Epoch: epoch, Add: []api.Meta{m}}, api.ErrArg)
			return
		}
		do(t, l, api.Txn{Epoch: epoch, Add: []api.Meta{m}})
		do(t, l, api.Txn{Epoch: epoch + 1, Drop: []api.Seg{m.Seg}})
	}
	for _, n := range []int{0, 1, 2, 61, 62, 63, 64, 200} {
		try(strings.Repeat("q", n), 1 <= n && n <= 62)
	}
	for c := range 256 {
		b := string([]byte{byte(c)})
		for _, blob := range []string{b, b + "a", "a" + b, "a" + b + "c"} {
			try(blob, 33 <= c && c <= 126)
		}
	}
	try("жя", false)
}

// TestRows: P14.2, Rows from 0 on; any Sum.
func TestRows(t *testing.T) {
	for _, rows := range []int{least, -1, 0, 1, 4096, great} {
		for _, sum := range []uint32{0, 1, math.MaxUint32} {
			m := meta(3, 0, 0)
			m.Rows, m.Sum = rows, sum
			judged(t, opened(t, disk.New(), 1), api.Txn{Add: []api.Meta{m}})
		}
	}
	m := meta(3, 0, 0)
	m.Rows = -1
	refused(t, opened(t, disk.New(), 1), api.Txn{Add: []api.Meta{m}}, api.ErrArg)
}

// TestMovesMay: P14.2, a move's stream: -1, the first, the last, one more; two of one stream.
func TestMovesMay(t *testing.T) {
	for streams := 1; streams <= 8; streams++ {
		for _, n := range []int{least, -1, 0, streams - 1, streams, streams + 1, 8, 64, great} {
			l := opened(t, disk.New(), streams)
			if n < 0 || n >= streams {
				refused(t, l, api.Txn{Moves: []api.Move{{Stream: n, To: 1}}}, api.ErrArg)
				refused(t, l, api.Txn{Moves: []api.Move{{To: 1}, {Stream: n, To: 1}}}, api.ErrArg)
				continue
			}
			refused(t, l, api.Txn{Moves: []api.Move{{Stream: n, To: 1}, {Stream: n, From: 1, To: 2}}}, api.ErrArg)
			refused(t, l, api.Txn{Moves: []api.Move{{Stream: n}, {Stream: n}}}, api.ErrArg)
			if s := do(t, l, api.Txn{Moves: []api.Move{{Stream: n, To: 6}}}); s.Offsets[n] != 6 {
				t.Fatalf("%v", s)
			}
		}
	}
	l := opened(t, disk.New(), 8)
	var all []api.Move
	for n := range 8 {
		all = append(all, api.Move{Stream: 7 - n, To: uint64(n)})
	}
	do(t, l, api.Txn{Moves: all})
	refused(t, l, api.Txn{Epoch: 1, Moves: append(all, api.Move{Stream: 3})}, api.ErrArg)
}

// TestMovesFollow: P14.2, From as the stream's Offset, To from there on, each for itself.
func TestMovesFollow(t *testing.T) {
	numbers := []uint64{0, 1, 4, 5, 6, 1 << 63, math.MaxUint64}
	for _, from := range numbers {
		for _, to := range numbers {
			l := opened(t, disk.New(), 2)
			do(t, l, api.Txn{Moves: []api.Move{{Stream: 1, To: 5}}})
			x := api.Txn{Epoch: 1, Moves: []api.Move{{To: 3}, {Stream: 1, From: from, To: to}}}
			if from != 5 || to < 5 {
				refused(t, l, x, api.ErrMove)
			} else if s := do(t, l, x); s.Offsets[0] != 3 || s.Offsets[1] != to {
				t.Fatalf("%v", s)
			}
		}
	}
	l := opened(t, disk.New(), 2)
	refused(t, l, api.Txn{Moves: []api.Move{{Stream: 1, From: 2, To: 3}, {To: 3}}}, api.ErrMove)
	do(t, l, api.Txn{Moves: []api.Move{{To: math.MaxUint64}}})
	refused(t, l, api.Txn{Epoch: 1, Moves: []api.Move{{From: math.MaxUint64, To: 0}}}, api.ErrMove)
	do(t, l, api.Txn{Epoch: 1, Moves: []api.Move{{From: math.MaxUint64, To: math.MaxUint64}}})
}

// TestWipe: P14.2, a Wipe that is empty, that lies within 0 to MaxTime, that touches its edges, that goes beyond; nothing of the state hangs on it.
func TestWipe(t *testing.T) {
	cases := []struct {
		from, to int64
		may      bool
	}{
		{0, 0, true}, {5, 5, true}, {6, 5, true}, {-1, -1, true}, {0, -1, true}, {-3, -7, true}, {great, least, true}, {least, least, true}, {most + 5, most + 5, true}, {most + 5, most, true}, {great, great, true},
		{0, 1, true}, {3, 9, true}, {0, most, true}, {most - 1, most, true}, {0, 9, true}, {9, most, true},
		{-1, 0, false}, {-1, 1, false}, {-2, -1, false}, {0, most + 1, false}, {most, most + 1, false}, {most + 1, most + 2, false}, {-1, most + 1, false}, {least, great, false}, {least, 0, false}, {5, great, false},
	}
	for _, c := range cases {
		l := made(t, disk.New(), 1, 0, meta(3, 0, 0))
		x := api.Txn{Epoch: 1, Wipe: api.Span{From: c.from, To: c.to}}
		if !c.may {
			refused(t, l, x, api.ErrArg)
		} else if s := do(t, l, x); len(s.Metas) != 1 || s.Epoch != 2 {
			t.Fatalf("%v", s)
		}
	}
}

// TestTerms: P14.2, Term 0, the state's, another one, below 0.
func TestTerms(t *testing.T) {
	for elections := range 4 {
		for _, term := range []int{least, -1, 0, 1, 2, 3, 4, great} {
			l := made(t, disk.New(), 1, elections)
			x := api.Txn{Epoch: 1, Term: term}
			switch {
			case term < 0:
				refused(t, l, x, api.ErrArg)
			case term != 0 && term != elections:
				refused(t, l, x, api.ErrTerm)
			default:
				do(t, l, x)
			}
		}
	}
}

// TestEpochs: P14.2, each Epoch but the state's is refused.
func TestEpochs(t *testing.T) {
	l := opened(t, disk.New(), 1)
	for now := range 4 {
		for _, epoch := range []int{least, -1, 0, 1, 2, 3, 4, 5, great} {
			if epoch != now {
				refused(t, l, api.Txn{Epoch: epoch}, api.ErrEpoch)
			}
		}
		if s := do(t, l, api.Txn{Epoch: now}); s.Epoch != now+1 {
			t.Fatalf("%v", s)
		}
	}
}

// likes are segments of which the first one is one with the second one alone.
func likes() []api.Seg {
	a := api.Seg{Span: api.Span{From: 3, To: 9}, Version: 2, Part: 1, Core: 4}
	core, from, to, version, part := a, a, a, a, a
	core.Core, from.Span.From, to.Span.To, version.Version, part.Part = 0, 4, 10, 3, 2
	return []api.Seg{a, core, from, to, version, part}
}

// TestTwice: P14.2, Add of one that is there, of two alike, of one that Drop takes away at once; Core, Blob, Sum and Rows don't tell apart.
func TestTwice(t *testing.T) {
	all := likes()
	for at, s := range all {
		m, other := api.Meta{Seg: all[0], Blob: "b"}, api.Meta{Seg: s, Blob: "c", Sum: 3, Rows: 9}
		there, bare := made(t, disk.New(), 1, 0, m), opened(t, disk.New(), 1)
		if at > 1 {
			do(t, there, api.Txn{Epoch: 1, Add: []api.Meta{other}})
			do(t, bare, api.Txn{Add: []api.Meta{other, m}})
			continue
		}
		refused(t, there, api.Txn{Epoch: 1, Add: []api.Meta{other}}, api.ErrTwice)
		refused(t, there, api.Txn{Epoch: 1, Add: []api.Meta{meta(50, 0, 0), other}}, api.ErrTwice)
		refused(t, there, api.Txn{Epoch: 1, Add: []api.Meta{other}, Drop: []api.Seg{m.Seg}}, api.ErrTwice)
		refused(t, bare, api.Txn{Add: []api.Meta{other, m}}, api.ErrTwice)
		refused(t, bare, api.Txn{Add: []api.Meta{m, meta(50, 0, 0), other}}, api.ErrTwice)
		do(t, there, api.Txn{Epoch: 1, Drop: []api.Seg{m.Seg}})
		do(t, there, api.Txn{Epoch: 2, Add: []api.Meta{other}})
	}
	l := opened(t, disk.New(), 1)
	a, b := meta(3, 0, 0), meta(4, 0, 0)
	b.Blob = a.Blob
	do(t, l, api.Txn{Add: []api.Meta{a, b}})
}

// TestDrop: P14.2, Drop of one that isn't there, of two alike, of one that Add brings at once; Core doesn't tell apart.
func TestDrop(t *testing.T) {
	all := likes()
	for at, s := range all {
		m := api.Meta{Seg: all[0], Blob: "b"}
		l := made(t, disk.New(), 1, 0, m, meta(50, 0, 0))
		if at > 1 {
			refused(t, l, api.Txn{Epoch: 1, Drop: []api.Seg{s}}, api.ErrNone)
			refused(t, l, api.Txn{Epoch: 1, Drop: []api.Seg{m.Seg, s}}, api.ErrNone)
			refused(t, l, api.Txn{Epoch: 1, Drop: []api.Seg{s}, Add: []api.Meta{{Seg: s, Blob: "c"}}}, api.ErrNone)
			continue
		}
		refused(t, l, api.Txn{Epoch: 1, Drop: []api.Seg{m.Seg, s}}, api.ErrNone)
		refused(t, l, api.Txn{Epoch: 1, Drop: []api.Seg{s, seg(50, 0, 0), m.Seg}}, api.ErrNone)
		if s := do(t, l, api.Txn{Epoch: 1, Drop: []api.Seg{s}}); !slices.Equal(s.Metas, []api.Meta{meta(50, 0, 0)}) {
			t.Fatalf("%v", s)
		}
		refused(t, l, api.Txn{Epoch: 2, Drop: []api.Seg{s}}, api.ErrNone)
	}
}

// TestLimit: P14.2, MaxMetas and one more, and one more with one dropped.
func TestLimit(t *testing.T) {
	d := disk.New()
	l := opened(t, d, 1)
	all := metasOf(1000)
	more := meta(2000, 0, 0)
	refused(t, l, api.Txn{Add: append(metasOf(1000), more)}, api.ErrLimit)
	do(t, l, api.Txn{Add: all[:999]})
	refused(t, l, api.Txn{Epoch: 1, Add: []api.Meta{more, all[999]}}, api.ErrLimit)
	do(t, l, api.Txn{Epoch: 1, Add: all[999:]})
	refused(t, l, api.Txn{Epoch: 2, Add: []api.Meta{more}}, api.ErrLimit)
	refused(t, l, api.Txn{Epoch: 2, Add: []api.Meta{more, meta(2001, 0, 0)}, Drop: []api.Seg{all[3].Seg}}, api.ErrLimit)
	do(t, l, api.Txn{Epoch: 2, Add: []api.Meta{more}, Drop: []api.Seg{all[3].Seg}})
	expectState(t, opened(t, d, 1), l.State())
	fresh := metasOf(1000)
	for at := range fresh {
		fresh[at].Seg.Version = 1
	}
	var old []api.Seg
	for _, m := range l.State().Metas {
		old = append(old, m.Seg)
	}
	refused(t, l, api.Txn{Epoch: 3, Add: append(slices.Clone(fresh), more), Drop: old}, api.ErrTwice)
	if s := do(t, l, api.Txn{Epoch: 3, Add: fresh, Drop: old}); !slices.Equal(s.Metas, fresh) {
		t.Fatal("not all of them")
	}
	expectState(t, opened(t, d, 1), l.State())
	refused(t, l, api.Txn{Epoch: 4, Add: unheard(3000)}, api.ErrLimit)
}

// unheard are so many metas that no state has.
func unheard(n int) []api.Meta {
	metas := metasOf(n)
	for at := range metas {
		metas[at].Seg.Part = 9
	}
	return metas
}

// TestOrder: P14.1 and P14.2, Metas by From, To, Version, Part, whatever order Add had, also where Adds come one behind the other.
func TestOrder(t *testing.T) {
	var rising []api.Meta
	for _, from := range []int64{0, 2, 10} {
		for _, length := range []int64{1, 9, 100} {
			for _, version := range []int{0, 1, 10} {
				for _, part := range []int{0, 2, 11} {
					// Core falls: it is no part of the order.
					s := api.Seg{Span: api.Span{From: from, To: from + length}, Version: version, Part: part, Core: 20 - part}
					rising = append(rising, api.Meta{Seg: s, Blob: "b", Rows: len(rising)})
				}
			}
		}
	}
	for seed := range 40 {
		thrown := stream(seed)
		mixed := slices.Clone(rising)
		for at := range mixed {
			other := thrown.below(at + 1)
			mixed[at], mixed[other] = mixed[other], mixed[at]
		}
		cut := thrown.below(len(mixed) + 1)
		d := disk.New()
		l := opened(t, d, 1)
		do(t, l, api.Txn{Add: mixed[:cut]})
		s := do(t, l, api.Txn{Epoch: 1, Add: mixed[cut:]})
		if !slices.Equal(s.Metas, rising) || !slices.Equal(opened(t, d, 1).State().Metas, rising) {
			t.Fatalf("%v", s.Metas)
		}
	}
}

// TestNotKept: P14.4, the transaction is changed behind Do, and isn't changed by it.
func TestNotKept(t *testing.T) {
	d := disk.New()
	l := made(t, d, 2, 0, meta(1, 0, 0), meta(2, 0, 0))
	room := append(make([]api.Meta, 0, 9), meta(9, 0, 0), meta(4, 0, 0))
	x := api.Txn{Epoch: 1, Add: room, Drop: []api.Seg{seg(2, 0, 0)}, Moves: []api.Move{{Stream: 1, To: 4}}}
	want := do(t, l, x)
	if room[0] != meta(9, 0, 0) || room[1] != meta(4, 0, 0) || room[:3][2] != (api.Meta{}) || x.Drop[0] != seg(2, 0, 0) || x.Moves[0] != (api.Move{Stream: 1, To: 4}) {
		t.Fatalf("%v", x)
	}
	x.Add[0], x.Add[1], x.Drop[0], x.Moves[0] = api.Meta{}, api.Meta{}, api.Seg{}, api.Move{}
	expectState(t, l, want)
	expectState(t, opened(t, d, 2), want)
}

// TestNewMemory: P14.4, what State, Do and Elect answered is changed; neither the log nor another answer is.
func TestNewMemory(t *testing.T) {
	d := disk.New()
	l := opened(t, d, 2)
	var answers []api.State
	answer := func(s api.State, code api.Errno) {
		t.Helper()
		expectCode(t, "a call", code, api.OK)
		answers = append(answers, s)
	}
	spoil := func(s api.State) {
		// What stands behind the lists' ends may be written, too.
		for at := range s.Metas[:cap(s.Metas)] {
			s.Metas[:cap(s.Metas)][at] = api.Meta{Blob: "spoilt"}
		}
		for at := range s.Offsets[:cap(s.Offsets)] {
			s.Offsets[:cap(s.Offsets)][at] = 99
		}
	}
	answer(l.Do(api.Txn{Add: metasOf(3), Moves: []api.Move{{To: 5}}}))
	answer(l.Elect(4))
	answer(l.State(), api.OK)
	answer(l.State(), api.OK)
	want := l.State()
	for at, s := range answers {
		if !slices.Equal(s.Metas, want.Metas) || !slices.Equal(s.Offsets, want.Offsets) {
			t.Fatalf("answer %d: %v", at, s)
		}
		spoil(s)
		expectState(t, l, want)
	}
	kept := l.State()
	behind := do(t, l, api.Txn{Epoch: 1, Drop: []api.Seg{seg(0, 0, 0), seg(1, 0, 0)}, Moves: []api.Move{{From: 5, To: 8}}})
	if !same(kept, want) {
		t.Fatalf("%v", kept)
	}
	d.Cut(0)
	expectCode(t, "Snapshot", l.Snapshot(), api.ErrPower)
	spoil(l.State())
	expectState(t, l, behind)
	d.On()
	l = opened(t, d, 2)
	spoil(l.State())
	expectState(t, l, behind)
}
