package fact

import (
	"math"
	"slices"
	"testing"

	"gristmill/api"
)

// many is a row of facts that are told by their times alone, each behind its N.
func many(pairs ...[2]uint64) []api.Many {
	out := []api.Many{}
	for _, p := range pairs {
		out = append(out, api.Many{Fact: api.Fact{Time: int64(p[1])}, N: p[0]})
	}
	return out
}

// thrownRows are mostly no bag: in any order, with alike facts and Ns of 0.
func thrownRows(thrown *stream) []api.Many {
	counts := []uint64{0, 1, 2, 1 << 63, math.MaxUint64 - 1, math.MaxUint64}
	out := []api.Many{}
	for range thrown.below(16) {
		out = append(out, api.Many{Fact: thrownFact(thrown), N: counts[thrown.below(len(counts))]})
	}
	return out
}

// plainCount is how often rows have a fact, as the document's words say it.
func plainCount(rows []api.Many, f api.Fact) uint64 {
	n := uint64(0)
	for _, m := range rows {
		if alike(m.Fact, f) {
			n += m.N
		}
	}
	return n
}

// expectBag looks for each fact of the rows that an answer is to be made of, and that the answer is a bag.
func expectBag(t *testing.T, got, rows []api.Many) {
	t.Helper()
	for at, m := range got {
		if m.N == 0 || at > 0 && Compare(got[at-1].Fact, m.Fact) != -1 {
			t.Fatalf("no bag: %+v", got)
		}
	}
	for _, m := range slices.Concat(rows, got) {
		if have, want := plainCount(got, m.Fact), plainCount(rows, m.Fact); have != want {
			t.Fatalf("of %+v: %d of %+v, not %d", rows, have, m.Fact, want)
		}
	}
}

// deep is a copy of rows that shares nothing with them.
func deep(rows []api.Many) []api.Many {
	out := []api.Many{}
	for _, m := range rows {
		f := api.Fact{Time: m.Fact.Time, Dims: append([]string(nil), m.Fact.Dims...), Meas: append([]int64(nil), m.Fact.Meas...)}
		out = append(out, api.Many{Fact: f, N: m.N})
	}
	return out
}

func expectAsWas(t *testing.T, rows, was []api.Many) {
	t.Helper()
	same := func(a, b api.Many) bool { return a.N == b.N && alike(a.Fact, b.Fact) }
	if !slices.EqualFunc(rows, was, same) {
		t.Fatalf("changed: %+v, it was %+v", rows, was)
	}
}

// TestBagExample: P4.2, the document's example.
func TestBagExample(t *testing.T) {
	x, y := dims("a"), dims("b")
	expectAsWas(t, Bag([]api.Fact{x, y, x}), []api.Many{{Fact: x, N: 2}, {Fact: y, N: 1}})
}

// TestBag: P4.2, unlike facts in any order, each as often as it is there.
func TestBag(t *testing.T) {
	facts := rising()
	falling := slices.Clone(facts)
	slices.Reverse(falling)
	want := []api.Many{}
	for at, f := range facts {
		n := 2
		if at%3 == 0 {
			n += 5
			falling = append(falling, slices.Repeat([]api.Fact{f}, 5)...)
		}
		want = append(want, api.Many{Fact: f, N: uint64(n)})
	}
	expectAsWas(t, Bag(append(falling, facts...)), want)
}

// TestBagLists: P4.2, facts that part only in nil and empty lists are alike; what is missing parts them.
func TestBagLists(t *testing.T) {
	l := []api.Fact{dims(), {}, meas(), {Dims: []string{}, Meas: []int64{}}, dims(""), meas(0), dims("", "")}
	want := []api.Many{{N: 4}, {Fact: meas(0), N: 1}, {Fact: dims(""), N: 1}, {Fact: dims("", ""), N: 1}}
	expectAsWas(t, Bag(l), want)
}

// TestNothing: P4.2, no facts, and nil in each place.
func TestNothing(t *testing.T) {
	s := api.Span{From: 0, To: 9}
	one := many([2]uint64{2, 3})
	for _, none := range [][]api.Many{nil, {}, many([2]uint64{0, 3}), many([2]uint64{1, 3}, [2]uint64{math.MaxUint64, 3})} {
		if len(Within(none, s)) != 0 || len(Without(none, s)) != 0 || Count(none) != 0 || len(Join(none, nil)) != 0 || len(Join(nil, none)) != 0 || len(Join(none, none)) != 0 {
			t.Errorf("of %+v there is something", none)
		}
		if !Same(none, nil) || !Same(nil, none) || Same(none, one) || Same(one, none) {
			t.Errorf("%+v isn't the empty bag", none)
		}
		expectAsWas(t, Join(one, none), one)
		expectAsWas(t, Join(none, one), one)
	}
	if len(Bag(nil)) != 0 || len(Bag([]api.Fact{})) != 0 || len(Join(nil, nil)) != 0 || !Same(nil, nil) {
		t.Error("of nothing there is something")
	}
}

// TestJoin: P4.2, rows that are no bags, and Ns that turn round.
func TestJoin(t *testing.T) {
	most := uint64(math.MaxUint64)
	for _, c := range []struct{ a, b, want []api.Many }{
		{many([2]uint64{1, 1}), many([2]uint64{2, 0}), many([2]uint64{2, 0}, [2]uint64{1, 1})},
		{many([2]uint64{1, 1}, [2]uint64{2, 5}), many([2]uint64{3, 1}, [2]uint64{4, 7}), many([2]uint64{4, 1}, [2]uint64{2, 5}, [2]uint64{4, 7})},
		{many([2]uint64{1, 9}, [2]uint64{2, 5}, [2]uint64{3, 9}), nil, many([2]uint64{2, 5}, [2]uint64{4, 9})}, // not in order
		{many([2]uint64{1, 5}, [2]uint64{2, 5}), nil, many([2]uint64{3, 5})},                                   // alike side by side
		{many([2]uint64{0, 5}, [2]uint64{2, 6}), many([2]uint64{0, 7}), many([2]uint64{2, 6})},                 // N 0
		{many([2]uint64{0, 5}, [2]uint64{2, 5}), many([2]uint64{0, 5}), many([2]uint64{2, 5})},                 // N 0 beside others
		{many([2]uint64{most, 5}), many([2]uint64{1, 5}, [2]uint64{1, 6}), many([2]uint64{1, 6})},              // they come to 0
		{many([2]uint64{most, 5}, [2]uint64{1, 5}), many([2]uint64{3, 5}), many([2]uint64{3, 5})},              // to 0, and on
		{many([2]uint64{most, 5}), many([2]uint64{3, 5}), many([2]uint64{2, 5})},                               // over
		{many([2]uint64{most, 5}), many([2]uint64{most, 5}), many([2]uint64{most - 1, 5})},
		{many([2]uint64{1 << 63, 5}, [2]uint64{1 << 63, 6}), many([2]uint64{1 << 63, 5}), many([2]uint64{1 << 63, 6})},
	} {
		expectAsWas(t, Join(c.a, c.b), c.want)
		expectAsWas(t, Join(c.b, c.a), c.want)
		if rows := slices.Concat(c.a, c.b); !Same(rows, c.want) || !Same(c.want, rows) || Count(rows) != Count(c.want) {
			t.Errorf("%+v isn't %+v", rows, c.want)
		}
	}
}

// TestSpan: P4.2, From is within, To is not; spans that are empty or turned hold nothing.
func TestSpan(t *testing.T) {
	all := many([2]uint64{1, 3}, [2]uint64{2, 4}, [2]uint64{3, 5}, [2]uint64{4, 6})
	for _, c := range []struct{ from, to, first, behind int64 }{
		{3, 7, 0, 4}, {4, 6, 1, 3}, {3, 6, 0, 3}, {4, 7, 1, 4}, {4, 5, 1, 2}, {0, 3, 0, 0}, {7, 9, 4, 4},
		{5, 5, 0, 0}, {6, 4, 0, 0}, {9, 0, 0, 0}, {0, 0, 0, 0}, {-5, 4, 0, 1},
		{math.MinInt64, math.MaxInt64, 0, 4}, {math.MaxInt64, math.MinInt64, 0, 0},
	} {
		s := api.Span{From: c.from, To: c.to}
		expectAsWas(t, Within(all, s), all[c.first:c.behind])
		expectAsWas(t, Without(all, s), slices.Concat(all[:c.first], all[c.behind:]))
	}
}

// TestSpanEnds: P4.2, times at the ends of what there is; the last one is below no To.
func TestSpanEnds(t *testing.T) {
	low, high := api.Many{Fact: api.Fact{Time: math.MinInt64}, N: 1}, api.Many{Fact: api.Fact{Time: math.MaxInt64}, N: 1}
	s := api.Span{From: math.MinInt64, To: math.MaxInt64}
	expectAsWas(t, Within([]api.Many{low, high}, s), []api.Many{low})
	expectAsWas(t, Without([]api.Many{low, high}, s), []api.Many{high})
}

// TestCount: P4.2, all Ns together, of bags and of rows that are none.
func TestCount(t *testing.T) {
	most := uint64(math.MaxUint64)
	for _, c := range []struct {
		rows []api.Many
		want uint64
	}{
		{nil, 0},
		{many([2]uint64{7, 1}), 7},
		{many([2]uint64{7, 1}, [2]uint64{8, 2}), 15},
		{many([2]uint64{7, 2}, [2]uint64{0, 1}, [2]uint64{8, 2}), 15},
		{many([2]uint64{most, 1}), most},
		{many([2]uint64{most, 1}, [2]uint64{1, 2}), 0},
		{many([2]uint64{most, 1}, [2]uint64{most, 1}), most - 1},
	} {
		if got := Count(c.rows); got != c.want {
			t.Errorf("Count(%+v): %d, not %d", c.rows, got, c.want)
		}
	}
}

// TestSame: P4.2, bags that part in one place only.
func TestSame(t *testing.T) {
	x := api.Fact{Time: 1, Dims: []string{"a", "b"}, Meas: []int64{-2, 3}}
	for _, y := range []api.Fact{
		{Time: 2, Dims: x.Dims, Meas: x.Meas},
		{Time: 1, Dims: x.Dims[:1], Meas: x.Meas},
		{Time: 1, Dims: []string{"a", "b", ""}, Meas: x.Meas},
		{Time: 1, Dims: []string{"a", "c"}, Meas: x.Meas},
		{Time: 1, Dims: []string{"ab", ""}, Meas: x.Meas},
		{Time: 1, Dims: x.Dims, Meas: x.Meas[:1]},
		{Time: 1, Dims: x.Dims, Meas: []int64{-2, 3, 0}},
		{Time: 1, Dims: x.Dims, Meas: []int64{2, 3}},
	} {
		a, b := []api.Many{{Fact: x, N: 1}}, []api.Many{{Fact: y, N: 1}}
		if Same(a, b) || Same(b, a) || !Same(b, deep(b)) || Same(a, Join(a, b)) || Same(Join(a, b), a) || !Same(Join(a, b), slices.Concat(b, a)) {
			t.Errorf("%+v and %+v", x, y)
		}
	}
	if a := []api.Many{{Fact: x, N: 1}}; Same(a, Join(a, a)) || Same(Join(a, a), a) || !Same(Join(a, a), []api.Many{{Fact: x, N: 2}}) {
		t.Error("once and twice")
	}
}

// spoil changes all that can be changed of rows, and what lies behind their lists' ends.
func spoil(rows []api.Many) {
	for at := range rows {
		f := rows[at].Fact
		for d := range f.Dims {
			f.Dims[d] = "spoilt"
		}
		for m := range f.Meas {
			f.Meas[m] = 777
		}
		_, _ = append(f.Dims, "spoilt"), append(f.Meas, 777)
		rows[at].N = 777
	}
	_ = append(rows, api.Many{N: 777})
}

// TestNewMemory: P4.2, whoever changes an answer changes nothing else; what was handed in stays as it was.
func TestNewMemory(t *testing.T) {
	s := api.Span{From: 0, To: 1}
	for name, answer := range map[string]func(rows []api.Many) []api.Many{
		"bag": func(rows []api.Many) []api.Many {
			l := []api.Fact{}
			for _, m := range rows {
				l = append(l, m.Fact)
			}
			return Bag(l)
		},
		"join":    func(rows []api.Many) []api.Many { return Join(rows, rows) },
		"left":    func(rows []api.Many) []api.Many { return Join(rows, nil) },
		"right":   func(rows []api.Many) []api.Many { return Join(nil, rows) },
		"within":  func(rows []api.Many) []api.Many { return Within(rows, s) },
		"without": func(rows []api.Many) []api.Many { return Without(rows, s) },
	} {
		thrown := stream(44)
		for range 200 {
			rows := thrownRows(&thrown)
			if thrown.below(2) == 0 {
				rows = Join(rows, nil)
			}
			was := deep(rows)
			got := answer(rows)
			expectAsWas(t, rows, was)
			kept := deep(got)
			spoil(got)
			expectAsWas(t, rows, was)
			got = answer(rows)
			spoil(rows)
			expectAsWas(t, got, kept)
			if t.Failed() {
				t.Fatal(name)
			}
		}
	}
}

// TestAskedStays: P4.2, rows that are only asked stay as they were, in order or not.
func TestAskedStays(t *testing.T) {
	thrown := stream(66)
	for range 200 {
		a, b := thrownRows(&thrown), thrownRows(&thrown)
		wasA, wasB := deep(a), deep(b)
		Same(a, b)
		Count(a)
		expectAsWas(t, a, wasA)
		expectAsWas(t, b, wasB)
	}
}

// TestBagListNewMemory: P4.2, the list of facts that is handed in isn't put in order.
func TestBagListNewMemory(t *testing.T) {
	l := []api.Fact{dims("b"), dims("a"), dims("b"), meas(4)}
	got := Bag(l)
	if !slices.EqualFunc(l, []api.Fact{dims("b"), dims("a"), dims("b"), meas(4)}, alike) {
		t.Errorf("changed: %+v", l)
	}
	clear(l)
	expectAsWas(t, got, []api.Many{{Fact: meas(4), N: 1}, {Fact: dims("a"), N: 1}, {Fact: dims("b"), N: 2}})
}

// TestApart: P4.2, no two facts of an answer share their lists, where those that were handed in did.
func TestApart(t *testing.T) {
	texts, numbers := []string{"a", "b"}, []int64{1, 2}
	rows := []api.Many{
		{Fact: api.Fact{Time: 1, Dims: texts, Meas: numbers}, N: 1},
		{Fact: api.Fact{Time: 2, Dims: texts, Meas: numbers}, N: 1},
		{Fact: api.Fact{Time: 3, Dims: texts[:1], Meas: numbers[:1]}, N: 1},
	}
	got := Join(rows, nil)
	spoil(got[:1:1])
	expectAsWas(t, got[1:], rows[1:])
	spoil(got[2:])
	expectAsWas(t, got[1:2], rows[1:2])
}

// TestKeptNothing: P4.2, the same calls have the same answers.
func TestKeptNothing(t *testing.T) {
	thrown := stream(55)
	a := thrownRows(&thrown)
	first := Join(a, nil)
	Join(thrownRows(&thrown), thrownRows(&thrown))
	expectAsWas(t, Join(a, nil), first)
}

// TestThrown: P4.2, P4.3, thrown rows, held against the plain way.
func TestThrown(t *testing.T) {
	thrown := stream(5)
	for range 3000 {
		a, b, c := thrownRows(&thrown), thrownRows(&thrown), thrownRows(&thrown)
		s := api.Span{From: int64(thrown.below(5)) - 2, To: int64(thrown.below(5)) - 1}
		joined := Join(a, b)
		expectBag(t, joined, slices.Concat(a, b))
		expectAsWas(t, Join(b, a), joined)
		expectAsWas(t, Join(joined, c), Join(a, Join(b, c)))
		within, without := Within(a, s), Without(a, s)
		expectAsWas(t, Join(within, without), Join(a, nil))
		expectParted(t, a, s, within, without)
		if Count(joined) != Count(a)+Count(b) || !Same(joined, slices.Concat(b, a)) {
			t.Fatalf("Join(%+v, %+v): %+v", a, b, joined)
		}
		if Same(a, b) != (len(Join(a, turned(b))) == 0) {
			t.Fatalf("Same(%+v, %+v): %v", a, b, Same(a, b))
		}
	}
}

// turned has of each row the N that brings it to 0.
func turned(rows []api.Many) []api.Many {
	out := deep(rows)
	for at := range out {
		out[at].N = -out[at].N
	}
	return out
}

// expectParted looks that each fact is on its side of the span.
func expectParted(t *testing.T, rows []api.Many, s api.Span, within, without []api.Many) {
	t.Helper()
	in, out := []api.Many{}, []api.Many{}
	for _, m := range rows {
		if m.Fact.Time < s.From || m.Fact.Time >= s.To {
			out = append(out, m)
			continue
		}
		in = append(in, m)
	}
	expectBag(t, within, in)
	expectBag(t, without, out)
}

// TestMany: P4.2, more facts than a segment has.
func TestMany(t *testing.T) {
	thrown := stream(6)
	l := []api.Fact{}
	for range 3 * api.MaxFacts {
		l = append(l, thrownFact(&thrown))
	}
	bag := Bag(l)
	if Count(bag) != uint64(len(l)) {
		t.Errorf("%d of %d", Count(bag), len(l))
	}
	for _, m := range bag {
		n := uint64(0)
		for _, f := range l {
			if alike(f, m.Fact) {
				n++
			}
		}
		if n != m.N {
			t.Fatalf("%d of %+v, not %d", m.N, m.Fact, n)
		}
	}
}
