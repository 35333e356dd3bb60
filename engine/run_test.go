package engine

import (
	"errors"
	"fmt"
	"reflect"
	"slices"
	"strings"
	"testing"

	"gristmill/api"
	"gristmill/query"
	"gristmill/segment"
)

// may is a query that may be by oneOne, made anew each time.
func may() api.Query {
	return api.Query{
		Span:   api.Span{From: 5, To: 95},
		Filter: all(),
		Grain:  10,
		Sets:   [][]int{{0}, {}},
		Aggs:   []api.Agg{{Kind: api.AggCount}, {Kind: api.AggSum}, {Kind: api.AggMin}, {Kind: api.AggMax}, {Kind: api.AggDistinct}},
		Groups: 100,
	}
}

// counts is a query of how many facts there are, but for what change does.
func counts(change func(*api.Query)) api.Query {
	q := api.Query{Span: always, Filter: all(), Sets: [][]int{{}}, Aggs: []api.Agg{{Kind: api.AggCount}}, Groups: 1}
	change(&q)
	return q
}

func someFacts() []api.Many {
	return []api.Many{
		one(1, 4, "a", 1), one(2, 5, "b", -3), one(1, 9, "a", 10), one(3, 10, "a", 10),
		one(1, 19, "c", least), one(1, 20, "b", great), one(4, 94, "", 0), one(1, 95, "a", 8),
	}
}

// TestRun: P11.2, several sets and buckets, each aggregator.
func TestRun(t *testing.T) {
	expectGroups(t, oneOne, someFacts(), may(), always,
		`0 0 ["a"] | 1 0 [] | 1 10 [] | 1 10 [] | 1 10 [] | 1 0 ["a"]`,
		`0 0 ["b"] | 2 0 [] | 2 -6 [] | 2 -3 [] | 2 -3 [] | 2 0 ["b"]`,
		`0 10 ["a"] | 3 0 [] | 3 30 [] | 3 10 [] | 3 10 [] | 3 0 ["a"]`,
		`0 10 ["c"] | 1 0 [] | 1 -9223372036854775808 [] | 1 -9223372036854775808 [] | 1 -9223372036854775808 [] | 1 0 ["c"]`,
		`0 20 ["b"] | 1 0 [] | 1 9223372036854775807 [] | 1 9223372036854775807 [] | 1 9223372036854775807 [] | 1 0 ["b"]`,
		`0 90 [""] | 4 0 [] | 4 0 [] | 4 0 [] | 4 0 [] | 4 0 [""]`,
		`1 0 [] | 3 0 [] | 3 4 [] | 3 -3 [] | 3 10 [] | 3 0 ["a" "b"]`,
		`1 10 [] | 4 0 [] | 4 -9223372036854775778 [] | 4 -9223372036854775808 [] | 4 10 [] | 4 0 ["a" "c"]`,
		`1 20 [] | 1 0 [] | 1 9223372036854775807 [] | 1 9223372036854775807 [] | 1 9223372036854775807 [] | 1 0 ["b"]`,
		`1 90 [] | 4 0 [] | 4 0 [] | 4 0 [] | 4 0 [] | 4 0 [""]`,
	)
	bare := may()
	bare.Aggs, bare.Grain, bare.Filter = nil, 0, not(begin(0, ""))
	expectGroups(t, oneOne, someFacts(), bare, always)
	bare.Filter = not(is(0, "b"))
	expectGroups(t, oneOne, someFacts(), bare, always, `0 0 [""]`, `0 0 ["a"]`, `0 0 ["c"]`, `1 0 []`)
}

// TestSpans: P11.2, spans that are empty, share nothing with the query's, lie in it, hold it, begin or end at a fact's Time.
func TestSpans(t *testing.T) {
	q := counts(func(q *api.Query) { q.Span = api.Span{From: 5, To: 95} })
	for _, c := range []struct {
		s    api.Span
		want string
	}{
		{always, "12"}, {anywhere, "12"}, {q.Span, "12"}, {api.Span{From: 4, To: 96}, "12"}, {api.Span{From: -7, To: great}, "12"},
		{never, ""}, {api.Span{From: 10, To: 10}, ""}, {api.Span{From: 20, To: 10}, ""}, {api.Span{From: great, To: least}, ""},
		{api.Span{From: 0, To: 5}, ""}, {api.Span{From: 95, To: 200}, ""}, {api.Span{From: least, To: 0}, ""}, {api.Span{From: api.MaxTime, To: great}, ""},
		{api.Span{From: 11, To: 19}, ""},
		{api.Span{From: 0, To: 6}, "2"}, {api.Span{From: 5, To: 6}, "2"}, {api.Span{From: 6, To: 9}, ""},
		{api.Span{From: 9, To: 10}, "1"}, {api.Span{From: 9, To: 11}, "4"}, {api.Span{From: 10, To: 19}, "3"}, {api.Span{From: 10, To: 20}, "4"},
		{api.Span{From: 20, To: 94}, "1"}, {api.Span{From: 21, To: 95}, "4"}, {api.Span{From: 94, To: 96}, "4"},
	} {
		var want []string
		if c.want != "" {
			want = []string{"0 0 [] | " + c.want + " 0 []"}
		}
		expectGroups(t, oneOne, someFacts(), q, c.s, want...)
	}
	empty := counts(func(q *api.Query) { q.Span = api.Span{From: 9, To: 9} })
	expectGroups(t, oneOne, someFacts(), empty, always)
	ends := []api.Many{one(1, 0, "a", 0), one(1, last, "a", 0)}
	expectGroups(t, oneOne, ends, counts(func(q *api.Query) {}), always, `0 0 [] | 2 0 []`)
	expectGroups(t, oneOne, ends, counts(func(q *api.Query) {}), api.Span{From: 1, To: great}, `0 0 [] | 1 0 []`)
	expectGroups(t, oneOne, ends, counts(func(q *api.Query) {}), api.Span{From: least, To: last}, `0 0 [] | 1 0 []`)
}

// TestNothing: P11.2, a query whose span or filter holds of no row, and no facts at all: no groups, no error.
func TestNothing(t *testing.T) {
	for _, change := range []func(*api.Query){
		func(q *api.Query) { q.Span = api.Span{} },
		func(q *api.Query) { q.Span = api.Span{From: 96, To: 500} },
		func(q *api.Query) { q.Filter = or() },
		func(q *api.Query) { q.Filter = is(0, "nobody") },
		func(q *api.Query) { q.Filter = meas(0, 11, great-1) },
		func(q *api.Query) { q.Filter = and(is(0, "c"), meas(0, 0, great)) },
	} {
		expectGroups(t, oneOne, someFacts(), counts(change), anywhere)
	}
	expectGroups(t, oneOne, nil, may(), always)
	expectGroups(t, oneOne, []api.Many{one(0, 7, "a", 1)}, may(), always)
	expectGroups(t, api.Schema{}, nil, counts(func(q *api.Query) {}), always)
	if groups, err := Run(&segment.Segment{}, counts(func(q *api.Query) {}), always); len(groups) != 0 || err != nil {
		t.Errorf("%v, %v", groups, err)
	}
}

// TestMany: P11.2, facts that are there many times, up to 2^64-1 in all; sums turn round.
func TestMany(t *testing.T) {
	q := may()
	q.Sets, q.Grain = [][]int{{}}, 0
	expectGroups(t, oneOne, []api.Many{one(most, 7, "a", 3)}, q, always,
		`0 0 [] | 18446744073709551615 0 [] | 18446744073709551615 -3 [] | 18446744073709551615 3 [] | 18446744073709551615 3 [] | 18446744073709551615 0 ["a"]`)
	expectGroups(t, oneOne, []api.Many{one(1<<63, 7, "a", 1), one(1<<63-1, 8, "b", least)}, q, always,
		`0 0 [] | 18446744073709551615 0 [] | 18446744073709551615 0 [] | 18446744073709551615 -9223372036854775808 [] | 18446744073709551615 1 [] | 18446744073709551615 0 ["a" "b"]`)
	expectGroups(t, oneOne, []api.Many{one(1, 7, "a", great), one(1, 8, "a", great)}, q, always,
		`0 0 [] | 2 0 [] | 2 -2 [] | 2 9223372036854775807 [] | 2 9223372036854775807 [] | 2 0 ["a"]`)
}

// TestAlike: P11.2, facts in any order, alike ones that come apart and together, with N 0.
func TestAlike(t *testing.T) {
	for _, l := range [][]api.Many{
		{one(5, 7, "a", 3), one(2, 6, "b", 1)},
		{one(2, 6, "b", 1), one(5, 7, "a", 3)},
		{one(1, 7, "a", 3), one(4, 7, "a", 3), one(2, 6, "b", 1)},
		{one(4, 7, "a", 3), one(2, 6, "b", 1), one(1, 7, "a", 3)},
		{one(0, 7, "a", 3), one(1, 6, "b", 1), one(0, 8, "z", 9), one(5, 7, "a", 3), one(1, 6, "b", 1), one(0, 6, "b", 1)},
	} {
		q := may()
		q.Aggs = q.Aggs[:2]
		expectGroups(t, oneOne, l, q, always, `0 0 ["a"] | 5 0 [] | 5 15 []`, `0 0 ["b"] | 2 0 [] | 2 2 []`, `1 0 [] | 7 0 [] | 7 17 []`)
	}
}

// TestMoreGroups: P11.2, more groups than Groups says, and than Rows says: still all groups.
func TestMoreGroups(t *testing.T) {
	var l []api.Many
	var want []string
	for at := range 300 {
		l = append(l, one(1, int64(at%7), fmt.Sprintf("%03d", at), 1))
		want = append(want, fmt.Sprintf(`0 0 ["%03d"] | 1 0 []`, at))
	}
	for _, c := range [][2]int{{1, 0}, {299, 1}, {300, 0}, {1, 10000}} {
		q := counts(func(q *api.Query) { q.Sets, q.Groups, q.Rows = [][]int{{0}}, c[0], c[1] })
		expectGroups(t, oneOne, l, q, always, want...)
	}
}

// TestMostOfAll: P11.2, as many sets and aggregators as may be, as great a grain.
func TestMostOfAll(t *testing.T) {
	c := api.Schema{Dims: 8, Meas: 8}
	thrown := stream(12)
	l := thrown.facts(c, 60)
	q := api.Query{Span: always, Filter: all(), Grain: api.MaxTime, Groups: 1, Sets: query.Cube([]int{0, 1, 2, 4, 6, 7})}
	for at := range 16 {
		q.Aggs = append(q.Aggs, api.Agg{Kind: 1 + at%5, Col: at % 8})
	}
	expectPlain(t, c, l, q, always)
	q.Grain = 1
	expectPlain(t, c, l, q, api.Span{From: 2, To: last})
}

// wrongs are changes of may that query.Check refuses by oneOne.
func wrongs() []func(*api.Query) {
	return []func(*api.Query){
		func(q *api.Query) { q.Span = api.Span{From: 6, To: 5} },
		func(q *api.Query) { q.Span.From = -1 },
		func(q *api.Query) { q.Span.To = api.MaxTime + 1 },
		func(q *api.Query) { q.Filter = api.Filter{} },
		func(q *api.Query) { q.Filter = is(1, "a") },
		func(q *api.Query) { q.Filter = not(meas(1, 0, 0)) },
		func(q *api.Query) { q.Grain = -1 },
		func(q *api.Query) { q.Grain = api.MaxTime + 1 },
		func(q *api.Query) { q.Sets = nil },
		func(q *api.Query) { q.Sets = make([][]int, 65) },
		func(q *api.Query) { q.Sets = [][]int{{}, {0}, {1}} },
		func(q *api.Query) { q.Sets = [][]int{{0, 0}} },
		func(q *api.Query) { q.Aggs[3].Col = 1 },
		func(q *api.Query) { q.Aggs = slices.Repeat(q.Aggs[:1], 17) },
		func(q *api.Query) { q.Groups = 0 },
		func(q *api.Query) { q.Groups = 10001 },
		func(q *api.Query) { q.Rows = -1 },
		func(q *api.Query) { q.Rows, q.Grain = 10001, -1 },
	}
}

// expectWrong asks for just query.Check's error.
func expectWrong(t *testing.T, c api.Schema, q api.Query, groups []api.Group, err error) {
	t.Helper()
	var w *query.Wrong
	if len(groups) != 0 || !errors.As(err, &w) || !errors.Is(err, api.ErrQuery) || !reflect.DeepEqual(err, query.Check(c, q)) {
		t.Errorf("%v, %v, not %v", groups, err, query.Check(c, q))
	}
}

// TestRunRefused: P11.2, ErrArg of a nil segment, as an api.Errno itself, also ahead of what is wrong with the query; else query.Check's error by the segment's schema.
func TestRunRefused(t *testing.T) {
	changes := append(wrongs(), func(q *api.Query) {})
	for _, change := range changes {
		q := may()
		change(&q)
		for _, s := range []api.Span{always, never} {
			if groups, err := Run(nil, q, s); len(groups) != 0 || err != error(api.ErrArg) {
				t.Errorf("%v, %v, not ErrArg", groups, err)
			}
		}
	}
	for _, l := range [][]api.Many{nil, someFacts()} {
		g := made(t, oneOne, l...)
		for _, change := range wrongs() {
			q := may()
			change(&q)
			for _, s := range []api.Span{always, never, {From: 9, To: 3}} {
				groups, err := Run(g, q, s)
				expectWrong(t, oneOne, q, groups, err)
			}
		}
	}
	for _, c := range []api.Schema{{}, {Dims: 1}, {Meas: 1}} {
		groups, err := Run(made(t, c), may(), always)
		expectWrong(t, c, may(), groups, err)
	}
}

// TestPlainRefused: P11.2, query.Check's error ahead of ErrFact; ErrFact, as an api.Errno itself, wherever the fact lies, and however often it is there.
func TestPlainRefused(t *testing.T) {
	bad := []api.Many{
		one(1, -1, "a", 1), one(1, api.MaxTime, "a", 1), one(1, least, "a", 1), one(1, great, "a", 1),
		one(1, 7, strings.Repeat("a", 65), 1),
		many(1, 7, nil, 1), many(1, 7, []string{"a"}), many(1, 7, []string{"a", "b"}, 1), many(1, 7, []string{"a"}, 1, 2), {},
		one(0, -1, "a", 1), many(0, 7, nil), one(1, 500, strings.Repeat("a", 65), 1),
	}
	for _, m := range bad {
		for _, l := range [][]api.Many{{m}, append(someFacts(), m), append([]api.Many{m}, someFacts()...), {m, m}} {
			for _, s := range []api.Span{always, anywhere, never, {From: 600, To: 700}} {
				for _, f := range []api.Filter{all(), or()} {
					q := may()
					q.Filter = f
					if groups, err := Plain(oneOne, q, l, s); len(groups) != 0 || err != error(api.ErrFact) {
						t.Errorf("%v, %v, not ErrFact", groups, err)
					}
				}
			}
		}
	}
	for _, change := range wrongs() {
		q := may()
		change(&q)
		for _, l := range [][]api.Many{nil, bad, someFacts()} {
			groups, err := Plain(oneOne, q, l, always)
			expectWrong(t, oneOne, q, groups, err)
		}
	}
	for _, c := range []api.Schema{{Dims: 9, Meas: 1}, {Dims: 1, Meas: -1}, {Dims: -1}, {Meas: 9}, {}, {Meas: 1}} {
		groups, err := Plain(c, may(), someFacts(), always)
		expectWrong(t, c, may(), groups, err)
	}
}

// TestRunNewMemory: P11.2, what is handed in stays as it was and isn't kept, and whoever changes an answer changes nothing else.
func TestRunNewMemory(t *testing.T) {
	l, q, g := someFacts(), may(), made(t, oneOne, someFacts()...)
	q.Filter = or(begin(0, "a"), not(begin(0, "a")))
	want := show(plainGroups(q, l, always))
	for _, ask := range []func() ([]api.Group, error){
		func() ([]api.Group, error) { return Run(g, q, always) },
		func() ([]api.Group, error) { return Plain(oneOne, q, l, always) },
	} {
		groups, err := ask()
		expectTexts(t, "first", groups, err, want)
		second, err := ask()
		expectTexts(t, "second", second, err, want)
		for at := range groups {
			for dim := range groups[at].Key.Dims {
				groups[at].Key.Dims[dim] = "changed"
			}
			for part := range groups[at].Parts {
				for text := range groups[at].Parts[part].Texts {
					groups[at].Parts[part].Texts[text] = "changed"
				}
				groups[at].Parts[part].V = 77
			}
			groups[at] = api.Group{}
		}
		expectTexts(t, "the second one behind it", second, nil, want)
		third, err := ask()
		expectTexts(t, "third", third, err, want)
	}
	held := may()
	held.Filter = or(begin(0, "a"), not(begin(0, "a")))
	if !reflect.DeepEqual(q, held) || !reflect.DeepEqual(l, someFacts()) || !reflect.DeepEqual(g.Facts(), someFacts()) {
		t.Errorf("what was handed in isn't what it was")
	}
	groups, _ := Plain(oneOne, q, l, always)
	l[1].Fact.Dims[0], l[1].Fact.Meas[0], q.Sets[0][0], q.Aggs[0].Kind = "z", 9, 7, 0
	expectTexts(t, "behind a change of what was handed in", groups, nil, want)
}
