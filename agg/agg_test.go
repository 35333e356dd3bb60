package agg

import (
	"math"
	"slices"
	"strings"
	"testing"

	"gristmill/api"
)

const (
	least = math.MinInt64
	great = math.MaxInt64
	most  = math.MaxUint64
)

var kinds = []int{api.AggCount, api.AggSum, api.AggMin, api.AggMax, api.AggDistinct}

var noKinds = []int{0, -1, api.AggDistinct + 1, math.MinInt, math.MaxInt}

// stream tells numbers that look thrown, the same ones at each run.
type stream uint64

func (s *stream) below(n int) int {
	*s = *s*6364136223846793005 + 1442695040888963407
	return int(uint64(*s) >> 31 % uint64(n))
}

// thrownFact is of a schema of 2 dimensions and 2 measures.
func thrownFact(thrown *stream) api.Fact {
	texts := []string{"", "a", "ab", "b", "\x00", "\xff", "a\xfe", "ä", strings.Repeat("z", 64), strings.Repeat("z", 63)}
	numbers := []int64{0, 1, -1, 7, -9, least, least + 1, great, great - 1}
	f := api.Fact{Time: int64(thrown.below(100))}
	for range 2 {
		f.Dims = append(f.Dims, texts[thrown.below(len(texts))])
		f.Meas = append(f.Meas, numbers[thrown.below(len(numbers))])
	}
	return f
}

// thrownBag has fewer than 2^64 facts, so that its N is 0 only where there are none.
func thrownBag(thrown *stream) []api.Many {
	counts := []uint64{0, 1, 1, 2, 3, 1000, 1 << 40, 1 << 59}
	bag := []api.Many{}
	for range thrown.below(6) {
		bag = append(bag, api.Many{Fact: thrownFact(thrown), N: counts[thrown.below(len(counts))]})
	}
	return bag
}

func thrownAgg(thrown *stream) api.Agg {
	return api.Agg{Kind: kinds[thrown.below(len(kinds))], Col: thrown.below(2)}
}

// plainHas is what an aggregator has of a bag, as the document's words say it.
func plainHas(a api.Agg, bag []api.Many) api.Partial {
	out := api.Partial{}
	numbers, texts := []int64{}, []string{}
	for _, m := range bag {
		out.N += m.N
		switch {
		case m.N == 0 || a.Kind == api.AggCount:
		case a.Kind == api.AggDistinct:
			texts = append(texts, m.Fact.Dims[a.Col])
		case a.Kind == api.AggSum:
			numbers = append(numbers, m.Fact.Meas[a.Col])
			out.V += int64(m.N) * m.Fact.Meas[a.Col]
		default:
			numbers = append(numbers, m.Fact.Meas[a.Col])
		}
	}
	slices.Sort(texts)
	out.Texts = slices.Compact(texts)
	slices.Sort(numbers)
	if a.Kind == api.AggMin && len(numbers) > 0 {
		out.V = numbers[0]
	}
	if a.Kind == api.AggMax && len(numbers) > 0 {
		out.V = numbers[len(numbers)-1]
	}
	return out
}

func plainValue(a api.Agg, p api.Partial) int64 {
	if a.Kind == api.AggCount {
		return int64(p.N)
	}
	if a.Kind == api.AggDistinct {
		return int64(len(p.Texts))
	}
	return p.V
}

// added is what an aggregator has of a bag, its facts added one behind the other.
func added(a api.Agg, bag []api.Many) api.Partial {
	p := Start(a)
	for _, m := range bag {
		p = Add(a, p, m.Fact, m.N)
	}
	return p
}

func alike(p, q api.Partial) bool {
	return p.N == q.N && p.V == q.V && slices.Equal(p.Texts, q.Texts)
}

func expect(t *testing.T, a api.Agg, got, want api.Partial) {
	t.Helper()
	if !alike(got, want) {
		t.Fatalf("%+v: %+v, not %+v", a, got, want)
	}
}

func deep(p api.Partial) api.Partial {
	return api.Partial{N: p.N, V: p.V, Texts: append([]string(nil), p.Texts...)}
}

// roomy is a Partial whose Texts have room behind their end, which an append would write into.
func roomy(p api.Partial) api.Partial {
	p.Texts = append(make([]string, 0, len(p.Texts)+9), p.Texts...)
	return p
}

// spoil changes all that can be changed of a list, and what lies behind its end.
func spoil(l []string) {
	l = l[:cap(l)]
	for at := range l {
		l[at] = "spoilt"
	}
}

func text(s string) api.Fact { return api.Fact{Dims: []string{s}} }

func meas(v int64) api.Fact { return api.Fact{Meas: []int64{v}} }

func texts(n uint64, l ...string) api.Partial { return api.Partial{N: n, Texts: l} }

// TestExamples: P6.2, the document's examples.
func TestExamples(t *testing.T) {
	sum := api.Agg{Kind: api.AggSum}
	got := added(sum, []api.Many{{Fact: meas(3), N: 2}, {Fact: meas(-1), N: 1}})
	expect(t, sum, got, api.Partial{N: 3, V: 5})
	small := api.Agg{Kind: api.AggMin}
	if Value(small, Start(small)) != 0 || Value(small, Add(small, Start(small), meas(5), 1)) != 5 {
		t.Error("AggMin")
	}
	distinct := api.Agg{Kind: api.AggDistinct}
	got = added(distinct, []api.Many{{Fact: text("b"), N: 1}, {Fact: text("a"), N: 1}, {Fact: text("b"), N: 1}})
	expect(t, distinct, got, texts(3, "a", "b"))
	if Value(distinct, got) != 2 {
		t.Error("AggDistinct")
	}
}

// TestCheckCol: P6.1, the edges of each kind's Col, in schemas in which dimensions and measures part.
func TestCheckCol(t *testing.T) {
	for _, s := range []api.Schema{{}, {Dims: 1}, {Meas: 1}, {Dims: 2, Meas: 5}, {Dims: 8, Meas: 3}, {Dims: 8, Meas: 8}, {Dims: -1, Meas: -1}} {
		for _, kind := range kinds {
			cols := s.Meas
			if kind == api.AggDistinct {
				cols = s.Dims
			}
			for _, col := range []int{math.MinInt, -2, -1, 0, 1, 2, 3, 4, 5, 6, 7, 8, 9, cols - 1, cols, math.MaxInt} {
				want := api.ErrArg
				if kind == api.AggCount || col >= 0 && col <= cols-1 {
					want = api.OK
				}
				if got := Check(s, []api.Agg{{Kind: kind, Col: col}}); got != want {
					t.Errorf("%+v, kind %d, Col %d: %d, not %d", s, kind, col, got, want)
				}
			}
		}
	}
}

// TestCheckKind: P6.1, kinds that are none.
func TestCheckKind(t *testing.T) {
	for _, kind := range noKinds {
		if got := Check(api.Schema{Dims: 8, Meas: 8}, []api.Agg{{Kind: kind}}); got != api.ErrArg {
			t.Errorf("kind %d: %d", kind, got)
		}
	}
}

// TestCheckMany: P6.1, none of them, as many as may be, one more, and a wrong one at each place.
func TestCheckMany(t *testing.T) {
	s := api.Schema{Dims: 1, Meas: 2}
	row := func(n int) []api.Agg {
		l := []api.Agg{}
		for at := range n {
			l = append(l, api.Agg{Kind: kinds[at%len(kinds)]})
		}
		return l
	}
	if Check(s, nil) != api.OK || Check(s, []api.Agg{}) != api.OK || Check(api.Schema{}, nil) != api.OK {
		t.Error("none of them is refused")
	}
	for n := 1; n < 40; n++ {
		l := row(n)
		if got := Check(s, l); (got == api.OK) != (n <= 16) || got != api.OK && got != api.ErrArg {
			t.Errorf("of %d: %d", n, got)
		}
		if !slices.Equal(l, row(n)) {
			t.Errorf("changed: %+v", l)
		}
		for at := range n {
			for _, wrong := range []api.Agg{{}, {Kind: 6}, {Kind: api.AggMax, Col: 2}, {Kind: api.AggDistinct, Col: 1}, {Kind: api.AggSum, Col: -1}} {
				l := row(n)
				l[at] = wrong
				if Check(s, l) != api.ErrArg {
					t.Errorf("taken: %+v", l)
				}
			}
		}
	}
}

// TestStart: P6.2, each kind has nothing of no facts, which may be.
func TestStart(t *testing.T) {
	for _, kind := range kinds {
		a := api.Agg{Kind: kind}
		expect(t, a, Start(a), api.Partial{})
		if Value(a, Start(a)) != 0 || !May(api.Schema{Dims: 1, Meas: 1}, a, Start(a)) {
			t.Errorf("kind %d", kind)
		}
	}
}

// TestAddN: P6.2, a fact 0 times, once, more often, and as often as can be told.
func TestAddN(t *testing.T) {
	f := api.Fact{Dims: []string{"x", "y"}, Meas: []int64{5, -3}}
	for _, c := range []struct {
		a    api.Agg
		n    uint64
		want api.Partial
	}{
		{api.Agg{Kind: api.AggCount, Col: 99}, 1, api.Partial{N: 1}},
		{api.Agg{Kind: api.AggCount, Col: -1}, 7, api.Partial{N: 7}},
		{api.Agg{Kind: api.AggCount}, most, api.Partial{N: most}},
		{api.Agg{Kind: api.AggSum}, 1, api.Partial{N: 1, V: 5}},
		{api.Agg{Kind: api.AggSum, Col: 1}, 7, api.Partial{N: 7, V: -21}},
		{api.Agg{Kind: api.AggSum}, most, api.Partial{N: most, V: -5}},
		{api.Agg{Kind: api.AggSum, Col: 1}, 1 << 63, api.Partial{N: 1 << 63, V: least}},
		{api.Agg{Kind: api.AggMin}, 1, api.Partial{N: 1, V: 5}},
		{api.Agg{Kind: api.AggMin, Col: 1}, 7, api.Partial{N: 7, V: -3}},
		{api.Agg{Kind: api.AggMin}, most, api.Partial{N: most, V: 5}},
		{api.Agg{Kind: api.AggMax}, 1, api.Partial{N: 1, V: 5}},
		{api.Agg{Kind: api.AggMax, Col: 1}, 7, api.Partial{N: 7, V: -3}},
		{api.Agg{Kind: api.AggMax, Col: 1}, most, api.Partial{N: most, V: -3}},
		{api.Agg{Kind: api.AggDistinct}, 1, texts(1, "x")},
		{api.Agg{Kind: api.AggDistinct, Col: 1}, 7, texts(7, "y")},
		{api.Agg{Kind: api.AggDistinct}, most, texts(most, "x")},
	} {
		expect(t, c.a, Add(c.a, Start(c.a), f, c.n), c.want)
		expect(t, c.a, Add(c.a, Start(c.a), f, 0), api.Partial{})
		expect(t, c.a, Add(c.a, c.want, api.Fact{Dims: []string{"0", "0"}, Meas: []int64{least, great}}, 0), c.want)
	}
}

// TestTurnRound: P6.2, sums and N that go past 2^63 and 2^64.
func TestTurnRound(t *testing.T) {
	sum, number, distinct := api.Agg{Kind: api.AggSum}, api.Agg{Kind: api.AggCount}, api.Agg{Kind: api.AggDistinct}
	for _, c := range []struct {
		p    api.Partial
		v    int64
		n    uint64
		want api.Partial
	}{
		{api.Partial{N: 1, V: great}, 1, 1, api.Partial{N: 2, V: least}},
		{api.Partial{N: 1, V: least}, -1, 1, api.Partial{N: 2, V: great}},
		{api.Partial{N: 1, V: great}, great, 1, api.Partial{N: 2, V: -2}},
		{api.Partial{N: 1, V: great}, great, 2, api.Partial{N: 3, V: great - 2}},
		{api.Partial{N: 1, V: least}, least, 1, api.Partial{N: 2}},
		{api.Partial{N: 1, V: 4}, least, 2, api.Partial{N: 3, V: 4}},
		{api.Partial{N: 1, V: 4}, least, 3, api.Partial{N: 4, V: least + 4}},
		{api.Partial{N: 9, V: 4}, 3, 1 << 62, api.Partial{N: 1<<62 + 9, V: 4 - 1<<62}},
		{api.Partial{N: 1<<63 - 1, V: 4}, 0, 1, api.Partial{N: 1 << 63, V: 4}},
		{api.Partial{N: most - 1, V: 4}, 1, 1, api.Partial{N: most, V: 5}},
		{api.Partial{N: most, V: 4}, 1, 2, api.Partial{N: 1, V: 6}},
		{api.Partial{N: most, V: 4}, 7, most, api.Partial{N: most - 1, V: -3}},
		{api.Partial{N: 1 << 63, V: 4}, 1, 1<<63 + 5, api.Partial{N: 5, V: least + 9}},
	} {
		expect(t, sum, Add(sum, c.p, meas(c.v), c.n), c.want)
		expect(t, number, Add(number, api.Partial{N: c.p.N}, meas(c.v), c.n), api.Partial{N: c.want.N})
		expect(t, distinct, Add(distinct, texts(c.p.N, "b"), text("a"), c.n), texts(c.want.N, "a", "b"))
		more := Add(sum, Start(sum), meas(c.v), c.n)
		expect(t, sum, Merge(sum, c.p, more), c.want)
		expect(t, sum, Merge(sum, more, c.p), c.want)
		if Value(number, c.want) != int64(c.want.N) || Value(sum, c.want) != c.want.V {
			t.Errorf("Value of %+v", c.want)
		}
	}
}

// TestEnds: P6.2, the least and the greatest one of one and of several, below and above 0.
func TestEnds(t *testing.T) {
	small, big := api.Agg{Kind: api.AggMin}, api.Agg{Kind: api.AggMax}
	for _, c := range []struct {
		numbers   []int64
		low, high int64
	}{
		{nil, 0, 0}, {[]int64{0}, 0, 0}, {[]int64{5}, 5, 5}, {[]int64{-5}, -5, -5},
		{[]int64{5, 7}, 5, 7}, {[]int64{7, 5}, 5, 7}, {[]int64{-5, -7}, -7, -5}, {[]int64{-7, -5}, -7, -5},
		{[]int64{-7, 5}, -7, 5}, {[]int64{5, -7}, -7, 5}, {[]int64{0, 3}, 0, 3}, {[]int64{-3, 0}, -3, 0}, {[]int64{4, 4, 4}, 4, 4},
		{[]int64{8, 3, 9, 1, 5}, 1, 9}, {[]int64{-8, -3, -9, -1, -5}, -9, -1}, {[]int64{-2, 6, 0, -6, 2}, -6, 6},
		{[]int64{least}, least, least}, {[]int64{great}, great, great}, {[]int64{great, least}, least, great},
		{[]int64{least, -1, 0, 1, great}, least, great}, {[]int64{great, great - 1}, great - 1, great}, {[]int64{least + 1, least}, least, least + 1},
	} {
		bag := []api.Many{}
		for at, v := range c.numbers {
			bag = append(bag, api.Many{Fact: meas(v), N: uint64(at + 1)})
		}
		n := uint64(len(c.numbers) * (len(c.numbers) + 1) / 2)
		expect(t, small, added(small, bag), api.Partial{N: n, V: c.low})
		expect(t, big, added(big, bag), api.Partial{N: n, V: c.high})
		if Value(small, added(small, bag)) != c.low || Value(big, added(big, bag)) != c.high {
			t.Errorf("Value of %v", c.numbers)
		}
	}
}

// TestDistinct: P6.2, texts that are there, and that come below, between and above those that are.
func TestDistinct(t *testing.T) {
	a := api.Agg{Kind: api.AggDistinct}
	longest := strings.Repeat("b", 64)
	for _, c := range []struct {
		have []string
		more string
		want []string
	}{
		{nil, "b", []string{"b"}},
		{nil, "", []string{""}},
		{[]string{"b"}, "b", []string{"b"}},
		{[]string{"b"}, "a", []string{"a", "b"}},
		{[]string{"b"}, "c", []string{"b", "c"}},
		{[]string{"b", "d"}, "", []string{"", "b", "d"}},
		{[]string{"", "b"}, "", []string{"", "b"}},
		{[]string{"b", "d"}, "c", []string{"b", "c", "d"}},
		{[]string{"b", "d"}, "e", []string{"b", "d", "e"}},
		{[]string{"b", "d"}, "b", []string{"b", "d"}},
		{[]string{"b", "d"}, "d", []string{"b", "d"}},
		{[]string{"a", "b", "c", "d", "e"}, "c", []string{"a", "b", "c", "d", "e"}},
		{[]string{"a", "b", "d", "e"}, "bb", []string{"a", "b", "bb", "d", "e"}},
		{[]string{"b", "c"}, longest, []string{"b", longest, "c"}},
		{[]string{longest[:63], longest}, longest, []string{longest[:63], longest}},
		{[]string{longest}, longest[:63], []string{longest[:63], longest}},
		{[]string{"a", "ÿ"}, "\xff", []string{"a", "ÿ", "\xff"}},
		{[]string{"\xff"}, "\xfe\x80", []string{"\xfe\x80", "\xff"}},
		{[]string{"\xff"}, "\xef\xbf\xbd", []string{"\xef\xbf\xbd", "\xff"}},
		{[]string{"\x80", "\x81"}, "\x80\x00", []string{"\x80", "\x80\x00", "\x81"}},
	} {
		p := texts(uint64(len(c.have)), c.have...)
		got := Add(a, p, text(c.more), 3)
		expect(t, a, got, texts(p.N+3, c.want...))
		expect(t, a, Merge(a, texts(3, c.more), p), got)
		expect(t, a, Merge(a, p, texts(3, c.more)), got)
		if Value(a, got) != int64(len(c.want)) || !May(api.Schema{Dims: 1}, a, got) {
			t.Errorf("%+v", got)
		}
	}
}

// TestMergeTexts: P6.2, lists that lie in each other in many ways.
func TestMergeTexts(t *testing.T) {
	a := api.Agg{Kind: api.AggDistinct}
	l := func(s string) []string { return strings.Split(s, "") }
	for _, c := range []struct{ p, q, want string }{
		{"a", "a", "a"}, {"a", "b", "ab"}, {"ac", "bd", "abcd"}, {"ab", "cd", "abcd"}, {"ad", "bc", "abcd"}, {"abc", "abc", "abc"},
		{"abcd", "bd", "abcd"}, {"bd", "aceg", "abcdeg"}, {"abc", "bcd", "abcd"}, {"aceg", "abcdefg", "abcdefg"}, {"xyz", "abcxz", "abcxyz"},
	} {
		p, q, want := texts(20, l(c.p)...), texts(30, l(c.q)...), texts(50, l(c.want)...)
		expect(t, a, Merge(a, p, q), want)
		expect(t, a, Merge(a, q, p), want)
	}
}

// TestNoFacts: P6.2, a Partial whose N is 0 is of no facts, whatever else it has.
func TestNoFacts(t *testing.T) {
	f := api.Fact{Dims: []string{"m"}, Meas: []int64{-4}}
	has := map[int]api.Partial{
		api.AggCount: {N: 2}, api.AggSum: {N: 2, V: -8}, api.AggMin: {N: 2, V: -4}, api.AggMax: {N: 2, V: -4}, api.AggDistinct: texts(2, "m"),
	}
	for _, none := range []api.Partial{{}, {Texts: []string{}}, {V: 9}, {V: -9}, {V: least}, {V: great}, texts(0, "a"), texts(0, "z", "m"), {V: 3, Texts: []string{"m", "q"}}} {
		for _, kind := range kinds {
			a := api.Agg{Kind: kind}
			expect(t, a, Merge(a, none, has[kind]), has[kind])
			expect(t, a, Merge(a, has[kind], none), has[kind])
			expect(t, a, Merge(a, none, none), api.Partial{})
			expect(t, a, Merge(a, none, Start(a)), api.Partial{})
			expect(t, a, Merge(a, Start(a), none), api.Partial{})
			expect(t, a, Add(a, none, f, 2), has[kind])
		}
	}
}

// TestValue: P6.2, each kind tells its own of what there is, N as an int64.
func TestValue(t *testing.T) {
	for _, c := range []struct {
		kind int
		p    api.Partial
		want int64
	}{
		{api.AggCount, api.Partial{N: 7}, 7}, {api.AggCount, api.Partial{N: great}, great},
		{api.AggCount, api.Partial{N: 1 << 63}, least}, {api.AggCount, api.Partial{N: 1<<63 + 5}, least + 5}, {api.AggCount, api.Partial{N: most}, -1},
		{api.AggSum, api.Partial{N: 7, V: -3}, -3}, {api.AggSum, api.Partial{N: 7}, 0}, {api.AggSum, api.Partial{N: most, V: least}, least},
		{api.AggMin, api.Partial{N: 7, V: -3}, -3}, {api.AggMin, api.Partial{N: 1 << 63, V: least}, least},
		{api.AggMax, api.Partial{N: 7, V: great}, great}, {api.AggMax, api.Partial{N: 7, V: 4}, 4},
		{api.AggDistinct, texts(1, ""), 1}, {api.AggDistinct, texts(9, "a", "b", "c"), 3}, {api.AggDistinct, texts(most, "a", "b"), 2},
	} {
		if got := Value(api.Agg{Kind: c.kind}, c.p); got != c.want {
			t.Errorf("kind %d of %+v: %d, not %d", c.kind, c.p, got, c.want)
		}
	}
}
