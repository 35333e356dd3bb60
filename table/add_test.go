package table

import (
	"reflect"
	"strings"
	"testing"

	"gristmill/api"
)

// TestAddWrong: P9.2, of a fact that fact.Check refuses its error, also where N is 0 or the fact is outside; nothing changes.
func TestAddWrong(t *testing.T) {
	x := made(t, may())
	add(t, x, 1, event(7, "a", "b", 1))
	was := showGroups(x.Groups())
	for _, f := range []api.Fact{
		{}, {Time: 7}, {Time: 7, Dims: []string{"a"}, Meas: []int64{1}}, {Time: 7, Dims: []string{"a", "b", "c"}, Meas: []int64{1}},
		{Time: 7, Dims: []string{"a", "b"}}, {Time: 7, Dims: []string{"a", "b"}, Meas: []int64{1, 2}},
		event(7, strings.Repeat("a", 65), "b", 1), event(7, "a", strings.Repeat("b", 65), 1),
		event(-1, "a", "b", 1), event(least, "a", "b", 1), event(1<<40, "a", "b", 1), event(great, "a", "b", 1),
	} {
		for _, n := range []uint64{0, 1, most} {
			if code := x.Add(api.Many{Fact: f, N: n}); code != api.ErrFact {
				t.Errorf("%v of %+v, %d times", code, f, n)
			}
		}
	}
	expectGroups(t, x, was...)
}

// TestAddNone: P9.2, a fact 0 times changes nothing.
func TestAddNone(t *testing.T) {
	x := made(t, may())
	add(t, x, 0, event(7, "a", "b", 1))
	expectGroups(t, x)
	add(t, x, 1, event(7, "a", "b", 1))
	add(t, x, 0, event(7, "a", "b", 5))
	expectGroups(t, x, `0 0 ["a" "b"] | 1 0 [] | 1 1 []`, `1 0 ["a"] | 1 0 [] | 1 1 []`, `2 0 [] | 1 0 [] | 1 1 []`)
}

// TestAddSpan: P9.2, a Time at From, one below it, at To, one below it; an empty Span.
func TestAddSpan(t *testing.T) {
	cases := []struct {
		span api.Span
		time int64
		in   bool
	}{
		{api.Span{From: 5, To: 95}, 5, true}, {api.Span{From: 5, To: 95}, 4, false}, {api.Span{From: 5, To: 95}, 95, false}, {api.Span{From: 5, To: 95}, 94, true},
		{api.Span{From: 5, To: 95}, 0, false}, {api.Span{From: 5, To: 95}, 1<<40 - 1, false}, {api.Span{From: 5, To: 6}, 5, true},
		{api.Span{From: 5, To: 5}, 5, false}, {api.Span{From: 5, To: 5}, 4, false}, {api.Span{}, 0, false}, {api.Span{From: 1 << 40, To: 1 << 40}, 1<<40 - 1, false},
		{api.Span{To: 1 << 40}, 0, true}, {api.Span{To: 1 << 40}, 1<<40 - 1, true},
	}
	for _, c := range cases {
		x := made(t, only(func(q *api.Query) { q.Span = c.span }))
		add(t, x, 1, event(c.time, "a", "b", 1))
		if (x.Len() == 1) != c.in || x.Len() > 1 {
			t.Errorf("%d groups: %d in %+v", x.Len(), c.time, c.span)
		}
	}
}

// TestAddFilter: P9.2, a Filter that holds and one that doesn't, of each kind.
func TestAddFilter(t *testing.T) {
	all, none := api.Filter{Kind: api.FilterAll}, api.Filter{Kind: api.FilterOr}
	cases := []struct {
		f     api.Filter
		holds bool
	}{
		{all, true}, {none, false}, {api.Filter{Kind: api.FilterAnd}, true},
		{api.Filter{Kind: api.FilterNot, Kids: []api.Filter{all}}, false}, {api.Filter{Kind: api.FilterNot, Kids: []api.Filter{none}}, true},
		{api.Filter{Kind: api.FilterAnd, Kids: []api.Filter{all, none}}, false}, {api.Filter{Kind: api.FilterOr, Kids: []api.Filter{all, none}}, true},
		{api.Filter{Kind: api.FilterIs, Dim: 1, Texts: []string{"c", "b"}}, true}, {api.Filter{Kind: api.FilterIs, Dim: 0, Texts: []string{"c", "b"}}, false},
		{api.Filter{Kind: api.FilterRange, Dim: 1, Texts: []string{"b", "c"}}, true}, {api.Filter{Kind: api.FilterRange, Dim: 1, Texts: []string{"a", "b"}}, false},
		{api.Filter{Kind: api.FilterBegin, Dim: 1, Texts: []string{""}}, true}, {api.Filter{Kind: api.FilterBegin, Dim: 1, Texts: []string{"bb"}}, false},
		{api.Filter{Kind: api.FilterMeas, Lo: 1, Hi: 1}, true}, {api.Filter{Kind: api.FilterMeas, Lo: 2, Hi: 9}, false}, {api.Filter{Kind: api.FilterMeas, Lo: -9, Hi: 0}, false},
	}
	for _, c := range cases {
		x := made(t, only(func(q *api.Query) { q.Filter = c.f }))
		add(t, x, 1, event(7, "a", "b", 1))
		if (x.Len() == 1) != c.holds {
			t.Errorf("%d groups by %+v", x.Len(), c.f)
		}
	}
}

// TestAddGrain: P9.2, Grain 0, 1, one at which several facts share a bucket, and one above the Span.
func TestAddGrain(t *testing.T) {
	facts := []api.Fact{event(5, "a", "b", 1), event(9, "a", "b", 1), event(10, "a", "b", 1), event(19, "a", "b", 1), event(20, "a", "b", 1), event(94, "a", "b", 1)}
	cases := []struct {
		grain int64
		want  []string
	}{
		{0, []string{`0 0 [] = [6]`}},
		{1, []string{`0 5 [] = [1]`, `0 9 [] = [1]`, `0 10 [] = [1]`, `0 19 [] = [1]`, `0 20 [] = [1]`, `0 94 [] = [1]`}},
		{10, []string{`0 0 [] = [2]`, `0 10 [] = [2]`, `0 20 [] = [1]`, `0 90 [] = [1]`}},
		{7, []string{`0 0 [] = [1]`, `0 7 [] = [2]`, `0 14 [] = [2]`, `0 91 [] = [1]`}},
		{1 << 40, []string{`0 0 [] = [6]`}},
	}
	for _, c := range cases {
		x := made(t, only(func(q *api.Query) { q.Grain, q.Aggs = c.grain, []api.Agg{{Kind: api.AggCount}} }))
		add(t, x, 1, facts...)
		expectRows(t, x, c.want...)
	}
}

// TestAddSets: P9.2, one set, several, the same one twice, one without dimensions: each has a group of the fact.
func TestAddSets(t *testing.T) {
	cases := []struct {
		sets [][]int
		want []string
	}{
		{[][]int{{0}}, []string{`0 0 ["a"]`}},
		{[][]int{{1}}, []string{`0 0 ["b"]`}},
		{[][]int{{}}, []string{`0 0 []`}},
		{[][]int{nil}, []string{`0 0 []`}},
		{[][]int{{0, 1}}, []string{`0 0 ["a" "b"]`}},
		{[][]int{{1}, {}, {0, 1}, {0}}, []string{`0 0 ["b"]`, `1 0 []`, `2 0 ["a" "b"]`, `3 0 ["a"]`}},
		{[][]int{{0}, {0}}, []string{`0 0 ["a"]`, `1 0 ["a"]`}},
		{[][]int{{}, {}, {}}, []string{`0 0 []`, `1 0 []`, `2 0 []`}},
	}
	for _, c := range cases {
		x := made(t, only(func(q *api.Query) { q.Sets = c.sets }))
		add(t, x, 1, event(7, "a", "b", 1))
		expectGroups(t, x, c.want...)
	}
	x := made(t, only(func(q *api.Query) { q.Sets = make([][]int, 64) }))
	add(t, x, 1, event(7, "a", "b", 1))
	if l := x.Groups(); len(l) != 64 || l[63].Key.Set != 63 || l[10].Key.Set != 10 {
		t.Errorf("%v", l)
	}
}

// TestAddKeys: P9.2, facts of one key are merged; keys that differ by anything are not, also where
// values would be the same text if they were written one behind the other.
func TestAddKeys(t *testing.T) {
	count := []api.Agg{{Kind: api.AggCount}}
	x := made(t, only(func(q *api.Query) { q.Sets, q.Aggs = [][]int{{0, 1}}, count }))
	pairs := [][2]string{
		{"", ""}, {"", "\x00"}, {"", "ab"}, {"", "abc"}, {"\x00", ""}, {"1", ":1:"}, {"1:", "1:"}, {"1:1", ":"}, {"a", ""}, {"a", "b"}, {"a", "bc"}, {"a", "c"},
		{"ab", ""}, {"ab", "c"}, {"abc", ""}, {"b", "a"}, {"é", "\xff"}, {"é\xff", ""},
	}
	want := []string{}
	for n, p := range pairs {
		add(t, x, uint64(n+1), event(7, p[0], p[1], 0))
		add(t, x, 100, event(8, p[0], p[1], 5))
		want = append(want, showGroups([]api.Group{{Key: api.Key{Dims: p[:]}, Parts: []api.Partial{{N: uint64(n + 101)}}}})...)
	}
	expectGroups(t, x, want...)

	x = made(t, only(func(q *api.Query) { q.Sets, q.Aggs, q.Grain = [][]int{{0}, {1}, {}}, count, 1 }))
	add(t, x, 1, event(11, "a", "a", 0), event(12, "a", "a", 0))
	add(t, x, 4, event(11, "a", "b", 0))
	expectRows(t, x, `0 11 ["a"] = [5]`, `0 12 ["a"] = [1]`, `1 11 ["a"] = [1]`, `1 11 ["b"] = [4]`, `1 12 ["a"] = [1]`, `2 11 [] = [5]`, `2 12 [] = [1]`)

	x = made(t, only(func(q *api.Query) { q.Sets, q.Aggs = [][]int{{0}}, count }))
	long := strings.Repeat("l", 64)
	add(t, x, 1, event(7, long, "", 0), event(7, long[:63], "", 0), event(7, long[:63]+"m", "", 0))
	if x.Len() != 3 {
		t.Error(x.Len())
	}
}

// TestAddAggs: P9.2, each kind of aggregator, several, none; N times at once as one by one.
func TestAddAggs(t *testing.T) {
	aggs := []api.Agg{{Kind: api.AggCount, Col: 77}, {Kind: api.AggSum}, {Kind: api.AggMin}, {Kind: api.AggMax}, {Kind: api.AggDistinct, Col: 1}, {Kind: api.AggDistinct}, {Kind: api.AggSum}}
	x := made(t, only(func(q *api.Query) { q.Aggs = aggs }))
	add(t, x, 3, event(7, "a", "b", 4))
	expectGroups(t, x, `0 0 [] | 3 0 [] | 3 12 [] | 3 4 [] | 3 4 [] | 3 0 ["b"] | 3 0 ["a"] | 3 12 []`)
	add(t, x, 2, event(8, "a", "c", -6))
	add(t, x, 1, event(8, "a", "", 9))
	expectGroups(t, x, `0 0 [] | 6 0 [] | 6 9 [] | 6 -6 [] | 6 9 [] | 6 0 ["" "b" "c"] | 6 0 ["a"] | 6 9 []`)
	expectRows(t, x, `0 0 [] = [6 9 -6 9 3 1 9]`)
	for at, value := range []int64{6, 9, -6, 9, 3, 1, 9} {
		x := made(t, only(func(q *api.Query) { q.Aggs = aggs[at : at+1] }))
		for _, f := range []api.Fact{event(7, "a", "b", 4), event(7, "a", "b", 4), event(7, "a", "b", 4), event(8, "a", "c", -6), event(8, "a", "c", -6), event(8, "a", "", 9)} {
			add(t, x, 1, f)
		}
		if rows, _ := x.Rows(); len(rows) != 1 || len(rows[0].Values) != 1 || rows[0].Values[0] != value {
			t.Errorf("%+v: %v", aggs[at], rows)
		}
	}
	x = made(t, only(func(q *api.Query) {}))
	add(t, x, 3, event(7, "a", "b", 4), event(17, "a", "b", 4), event(7, "a", "b", 4))
	expectGroups(t, x, `0 0 []`, `0 10 []`)
	expectRows(t, x, `0 0 [] = []`, `0 10 [] = []`)
}

// TestAddTurns: sums turn round modulo 2^64; counts go up to below 2^64.
func TestAddTurns(t *testing.T) {
	x := made(t, only(func(q *api.Query) { q.Aggs = []api.Agg{{Kind: api.AggCount}, {Kind: api.AggSum}} }))
	add(t, x, 1, event(7, "a", "b", great), event(7, "a", "b", 1))
	expectRows(t, x, `0 0 [] = [2 -9223372036854775808]`)
	add(t, x, most-2, event(7, "a", "b", 1))
	expectGroups(t, x, `0 0 [] | 18446744073709551615 0 [] | 18446744073709551615 9223372036854775805 []`)
	expectRows(t, x, `0 0 [] = [-1 9223372036854775805]`)
}

// TestAddNotKept: rule 3, a fact that was added isn't changed, and isn't kept.
func TestAddNotKept(t *testing.T) {
	q := may()
	q.Aggs = append(q.Aggs, api.Agg{Kind: api.AggDistinct})
	x := made(t, q)
	f := event(7, "a", "b", 1)
	add(t, x, 1, f)
	if !reflect.DeepEqual(f, event(7, "a", "b", 1)) {
		t.Errorf("changed: %+v", f)
	}
	f.Dims[0], f.Dims[1], f.Meas[0] = "x", "y", 9
	expectGroups(t, x, `0 0 ["a" "b"] | 1 0 [] | 1 1 [] | 1 0 ["a"]`, `1 0 ["a"] | 1 0 [] | 1 1 [] | 1 0 ["a"]`, `2 0 [] | 1 0 [] | 1 1 [] | 1 0 ["a"]`)
}
