package query

import (
	"math"
	"reflect"
	"slices"
	"strings"
	"testing"

	"gristmill/agg"
	"gristmill/api"
	"gristmill/fact"
	"gristmill/filter"
)

const (
	least = math.MinInt64
	great = math.MaxInt64
)

// stream tells numbers that look thrown, the same ones at each run.
type stream uint64

func (s *stream) below(n int) int {
	*s = *s*6364136223846793005 + 1442695040888963407
	return int(uint64(*s) >> 31 % uint64(n))
}

var schema = api.Schema{Dims: 3, Meas: 2}

// may is a query that may be by schema, made anew each time.
func may() api.Query {
	return api.Query{
		Span:   api.Span{From: 3, To: 90},
		Filter: api.Filter{Kind: api.FilterNot, Kids: []api.Filter{{Kind: api.FilterIs, Dim: 2, Texts: []string{"b", "a"}}}},
		Grain:  10,
		Sets:   [][]int{{0, 2}, {1}, {}},
		Aggs:   []api.Agg{{Kind: api.AggCount}, {Kind: api.AggSum, Col: 1}, {Kind: api.AggDistinct, Col: 2}},
		Groups: 100,
		Rows:   7,
	}
}

// expect asks for nil where field is empty, else for a *Wrong itself, with just that place.
func expect(t *testing.T, s api.Schema, q api.Query, field string, at int) {
	t.Helper()
	err := Check(s, q)
	if field == "" {
		if err != nil {
			t.Errorf("%v of %+v by %+v", err, q, s)
		}
		return
	}
	w, ok := err.(*Wrong)
	if !ok || w == nil || w.Field != field || w.At != at {
		t.Errorf("%v, not %s at %d, of %+v by %+v", err, field, at, q, s)
	}
}

// unlessMay is the field that is told, unless it may be.
func unlessMay(is bool, field string) string {
	if is {
		return ""
	}
	return field
}

// TestMay: P8.1, queries that may be.
func TestMay(t *testing.T) {
	expect(t, schema, may(), "", 0)
	expect(t, api.Schema{}, api.Query{Filter: api.Filter{Kind: api.FilterAll}, Sets: [][]int{{}}, Groups: 1}, "", 0)
	expect(t, api.Schema{}, api.Query{Filter: api.Filter{Kind: api.FilterAll}, Sets: [][]int{nil}, Groups: 1}, "", 0)
	greatest := api.Query{
		Span:   api.Span{From: 1 << 40, To: 1 << 40},
		Filter: api.Filter{Kind: api.FilterOr, Kids: slices.Repeat([]api.Filter{{Kind: api.FilterMeas, Dim: 7, Lo: great, Hi: least}}, 199)},
		Grain:  1 << 40,
		Sets:   slices.Repeat([][]int{{0, 1, 2, 3, 4, 5, 6, 7}}, 64),
		Aggs:   slices.Repeat([]api.Agg{{Kind: api.AggMax, Col: 7}}, 16),
		Groups: 10000,
		Rows:   10000,
	}
	expect(t, api.Schema{Dims: 8, Meas: 8}, greatest, "", 0)
}

// TestExample: the document's table.
func TestExample(t *testing.T) {
	q := may()
	q.Sets = nil
	expect(t, schema, q, "sets", 0)
	if Code(Check(schema, q)) != api.ErrQuery {
		t.Error(Code(Check(schema, q)))
	}
}

// TestSchema: P8.1, a schema is refused just where fact.Fine does.
func TestSchema(t *testing.T) {
	q := api.Query{Filter: api.Filter{Kind: api.FilterAll}, Sets: [][]int{{}}, Groups: 1}
	numbers := []int{least, -1, 0, 1, 7, 8, 9, great}
	for _, dims := range numbers {
		for _, meas := range numbers {
			s := api.Schema{Dims: dims, Meas: meas}
			expect(t, s, q, unlessMay(0 <= dims && dims <= 8 && 0 <= meas && meas <= 8, "schema"), 0)
		}
	}
}

// TestSpan: P8.1, From below 0, above To, at To; To at MaxTime and above it.
func TestSpan(t *testing.T) {
	const most = 1 << 40
	cases := []struct {
		from, to int64
		fine     bool
	}{
		{0, 0, true}, {0, 1, true}, {5, 5, true}, {4, 5, true}, {0, most, true}, {most, most, true}, {most - 1, most, true},
		{-1, 5, false}, {-1, 0, false}, {-1, -1, false}, {-2, -1, false}, {least, great, false}, {least, 0, false},
		{6, 5, false}, {1, 0, false}, {0, -1, false}, {0, least, false}, {great, least, false}, {most, most - 1, false},
		{0, most + 1, false}, {most, most + 1, false}, {most + 1, most + 1, false}, {most + 1, most, false}, {0, great, false}, {great, great, false},
	}
	for _, c := range cases {
		q := may()
		q.Span = api.Span{From: c.from, To: c.to}
		expect(t, schema, q, unlessMay(c.fine, "span"), 0)
	}
}

// TestFilter: P8.1, a filter is refused just where filter.Check does, by the query's schema.
func TestFilter(t *testing.T) {
	all := api.Filter{Kind: api.FilterAll}
	deep := all
	for range 19 {
		deep = api.Filter{Kind: api.FilterNot, Kids: []api.Filter{deep}}
	}
	cases := []struct {
		f    api.Filter
		fine bool
	}{
		{all, true}, {api.Filter{}, false}, {api.Filter{Kind: 9}, false}, {api.Filter{Kind: -1}, false},
		{api.Filter{Kind: api.FilterAnd}, true}, {api.Filter{Kind: api.FilterOr}, true}, {api.Filter{Kind: api.FilterNot}, false},
		{api.Filter{Kind: api.FilterNot, Kids: []api.Filter{all, all}}, false},
		{api.Filter{Kind: api.FilterIs, Dim: 2}, true}, {api.Filter{Kind: api.FilterIs, Dim: 3}, false}, {api.Filter{Kind: api.FilterIs, Dim: -1}, false},
		{api.Filter{Kind: api.FilterMeas, Dim: 1}, true}, {api.Filter{Kind: api.FilterMeas, Dim: 2}, false},
		{api.Filter{Kind: api.FilterBegin, Texts: []string{strings.Repeat("t", 64)}}, true}, {api.Filter{Kind: api.FilterBegin, Texts: []string{strings.Repeat("t", 65)}}, false},
		{api.Filter{Kind: api.FilterRange, Texts: []string{"a"}}, false}, {api.Filter{Kind: api.FilterRange, Texts: []string{"b", "a"}}, true},
		{deep, true}, {api.Filter{Kind: api.FilterNot, Kids: []api.Filter{deep}}, false},
		{api.Filter{Kind: api.FilterAnd, Kids: slices.Repeat([]api.Filter{all}, 199)}, true}, {api.Filter{Kind: api.FilterAnd, Kids: slices.Repeat([]api.Filter{all}, 200)}, false},
	}
	for _, c := range cases {
		q := may()
		q.Filter = c.f
		expect(t, schema, q, unlessMay(c.fine, "filter"), 0)
		if (filter.Check(schema, c.f) == api.OK) != c.fine {
			t.Error("filter.Check says otherwise", c.f)
		}
	}
}

// TestGrain: P8.1, -1, 0, MaxTime and one above it.
func TestGrain(t *testing.T) {
	for _, grain := range []int64{least, -1 << 40, -2, -1, 0, 1, 2, 1<<40 - 1, 1 << 40, 1<<40 + 1, great} {
		q := may()
		q.Grain = grain
		expect(t, schema, q, unlessMay(0 <= grain && grain <= 1<<40, "grain"), 0)
	}
}

// TestGroups: P8.1, 0, 1, MaxGroups and one above it.
func TestGroups(t *testing.T) {
	for _, groups := range []int{least, -1, 0, 1, 2, 9999, 10000, 10001, great} {
		q := may()
		q.Groups = groups
		expect(t, schema, q, unlessMay(1 <= groups && groups <= 10000, "groups"), 0)
	}
}

// TestRows: P8.1, -1, 0, MaxGroups and one above it; Groups doesn't count for it.
func TestRows(t *testing.T) {
	for _, rows := range []int{least, -1, 0, 1, 2, 9999, 10000, 10001, great} {
		for _, groups := range []int{1, 10000} {
			q := may()
			q.Groups, q.Rows = groups, rows
			expect(t, schema, q, unlessMay(0 <= rows && rows <= 10000, "rows"), 0)
		}
	}
}

// TestSetsMany: P8.1, none, 1, MaxSets and one more; too many of them are told ahead of a wrong one.
func TestSetsMany(t *testing.T) {
	for n, fine := range map[int]bool{0: false, 1: true, 2: true, 63: true, 64: true, 65: false, 1000: false} {
		q := may()
		q.Sets = slices.Repeat([][]int{{0, 1}}, n)
		expect(t, schema, q, unlessMay(fine, "sets"), 0)
		if n > 2 {
			q.Sets[n-1] = []int{3}
			at := n - 1
			if n > 64 {
				at = 0
			}
			expect(t, schema, q, "sets", at)
		}
	}
	q := may()
	q.Sets = [][]int{}
	expect(t, schema, q, "sets", 0)
}

var fineSets = [][]int{nil, {}, {0}, {1}, {2}, {0, 1}, {0, 2}, {1, 2}, {0, 1, 2}}

var wrongSets = [][]int{
	{-1}, {3}, {4}, {great}, {least}, {-1, 0}, {0, -1}, {0, 3}, {3, 0}, {2, 3}, {0, 1, 2, 3}, {0, 1, 3}, {-1, 1, 2},
	{0, 0}, {2, 2}, {0, 1, 1}, {0, 0, 1}, {0, 1, 2, 2}, {1, 0}, {2, 1}, {2, 0}, {0, 2, 1}, {1, 0, 2}, {0, 1, 0}, {1, 2, 0}, {great, 0}, {0, great}, {0, least},
}

// TestSetsEach: P8.1, dimensions that there aren't, alike ones, ones that fall; sets of one dimension and of none.
func TestSetsEach(t *testing.T) {
	for _, set := range fineSets {
		q := may()
		q.Sets = [][]int{set}
		expect(t, schema, q, "", 0)
		q.Sets = [][]int{set, set}
		expect(t, schema, q, "", 0)
	}
	for _, set := range wrongSets {
		q := may()
		q.Sets = [][]int{set}
		expect(t, schema, q, "sets", 0)
	}
	for dims := range 9 {
		s := api.Schema{Dims: dims}
		q := api.Query{Filter: api.Filter{Kind: api.FilterAll}, Groups: 1}
		for dim := -1; dim < 10; dim++ {
			q.Sets = [][]int{{dim}}
			expect(t, s, q, unlessMay(0 <= dim && dim < dims, "sets"), 0)
		}
	}
}

// TestSetsAt: P8.1, At is that of the first set that is wrong, whatever stands behind it.
func TestSetsAt(t *testing.T) {
	thrown := stream(81)
	for range 2000 {
		q := may()
		q.Sets = nil
		for range thrown.below(64) {
			q.Sets = append(q.Sets, fineSets[thrown.below(len(fineSets))])
		}
		at := len(q.Sets)
		q.Sets = append(q.Sets, wrongSets[thrown.below(len(wrongSets))])
		for len(q.Sets) < 64 && thrown.below(4) > 0 {
			sets := [][][]int{fineSets, wrongSets}[thrown.below(2)]
			q.Sets = append(q.Sets, sets[thrown.below(len(sets))])
		}
		expect(t, schema, q, "sets", at)
	}
}

// TestAggsMany: P8.1, none, MaxAggs and one more; too many of them are told ahead of a wrong one.
func TestAggsMany(t *testing.T) {
	for n, fine := range map[int]bool{0: true, 1: true, 15: true, 16: true, 17: false, 1000: false} {
		q := may()
		q.Aggs = slices.Repeat([]api.Agg{{Kind: api.AggSum}}, n)
		expect(t, schema, q, unlessMay(fine, "aggs"), 0)
		if n > 1 {
			q.Aggs[n-1] = api.Agg{Kind: api.AggSum, Col: 2}
			at := n - 1
			if n > 16 {
				at = 0
			}
			expect(t, schema, q, "aggs", at)
		}
	}
	q := may()
	q.Aggs = nil
	expect(t, schema, q, "", 0)
}

var fineAggs = []api.Agg{
	{Kind: api.AggCount}, {Kind: api.AggCount, Col: -1}, {Kind: api.AggCount, Col: great}, {Kind: api.AggSum}, {Kind: api.AggSum, Col: 1},
	{Kind: api.AggMin, Col: 1}, {Kind: api.AggMax, Col: 1}, {Kind: api.AggDistinct}, {Kind: api.AggDistinct, Col: 2},
}

var wrongAggs = []api.Agg{
	{}, {Kind: -1}, {Kind: 6}, {Kind: great}, {Kind: api.AggSum, Col: 2}, {Kind: api.AggSum, Col: -1}, {Kind: api.AggMin, Col: 2},
	{Kind: api.AggMax, Col: 2}, {Kind: api.AggMax, Col: least}, {Kind: api.AggDistinct, Col: 3}, {Kind: api.AggDistinct, Col: -1},
}

// TestAggsAt: P8.1, At is that of the first one that agg.Check refuses alone, whatever stands behind it.
func TestAggsAt(t *testing.T) {
	thrown := stream(82)
	for range 2000 {
		q := may()
		q.Aggs = nil
		for range thrown.below(16) {
			q.Aggs = append(q.Aggs, fineAggs[thrown.below(len(fineAggs))])
		}
		expect(t, schema, q, "", 0)
		at := len(q.Aggs)
		q.Aggs = append(q.Aggs, wrongAggs[thrown.below(len(wrongAggs))])
		for len(q.Aggs) < 16 && thrown.below(4) > 0 {
			aggs := [][]api.Agg{fineAggs, wrongAggs}[thrown.below(2)]
			q.Aggs = append(q.Aggs, aggs[thrown.below(len(aggs))])
		}
		expect(t, schema, q, "aggs", at)
	}
	for _, a := range fineAggs {
		if agg.Check(schema, []api.Agg{a}) != api.OK {
			t.Error("agg.Check says otherwise", a)
		}
	}
	for _, a := range wrongAggs {
		if agg.Check(schema, []api.Agg{a}) == api.OK {
			t.Error("agg.Check says otherwise", a)
		}
	}
}

// spoilers are ways to make one part wrong and no other, in the order of the document's table.
var spoilers = []struct {
	field string
	at    int
	spoil func(s *api.Schema, q *api.Query)
}{
	{"schema", 0, func(s *api.Schema, q *api.Query) { s.Meas = 9 }},
	{"span", 0, func(s *api.Schema, q *api.Query) { q.Span.To = 2 }},
	{"filter", 0, func(s *api.Schema, q *api.Query) { q.Filter.Kids = nil }},
	{"grain", 0, func(s *api.Schema, q *api.Query) { q.Grain = -1 }},
	{"sets", 1, func(s *api.Schema, q *api.Query) { q.Sets[1] = []int{1, 1} }},
	{"aggs", 2, func(s *api.Schema, q *api.Query) { q.Aggs[2].Kind = 77 }},
	{"groups", 0, func(s *api.Schema, q *api.Query) { q.Groups = 0 }},
	{"rows", 0, func(s *api.Schema, q *api.Query) { q.Rows = -1 }},
}

// TestFirst: P8.1, of each choice of wrong parts, one alone and several at once, the first one of the table is told.
func TestFirst(t *testing.T) {
	for choice := range 1 << len(spoilers) {
		s, q := schema, may()
		field, at := "", 0
		for place, one := range spoilers {
			if choice>>place&1 == 0 {
				continue
			}
			one.spoil(&s, &q)
			if field == "" {
				field, at = one.field, one.at
			}
		}
		expect(t, s, q, field, at)
	}
}

// plainCheck is P8.1 read off the document's table, row by row; "" and 0, if the query may be.
func plainCheck(s api.Schema, q api.Query) (string, int) {
	switch {
	case fact.Fine(s) != api.OK:
		return "schema", 0
	case q.Span.From < 0, q.Span.From > q.Span.To, q.Span.To > 1<<40:
		return "span", 0
	case filter.Check(s, q.Filter) != api.OK:
		return "filter", 0
	case q.Grain < 0, q.Grain > 1<<40:
		return "grain", 0
	case len(q.Sets) == 0, len(q.Sets) > 64:
		return "sets", 0
	}
	for at, set := range q.Sets {
		for place, dim := range set {
			if dim < 0 || dim >= s.Dims || place > 0 && set[place-1] >= dim {
				return "sets", at
			}
		}
	}
	if len(q.Aggs) > 16 {
		return "aggs", 0
	}
	for at, a := range q.Aggs {
		if agg.Check(s, []api.Agg{a}) != api.OK {
			return "aggs", at
		}
	}
	switch {
	case q.Groups < 1, q.Groups > 10000:
		return "groups", 0
	case q.Rows < 0, q.Rows > 10000:
		return "rows", 0
	}
	return "", 0
}

// thrownQuery is mostly near one that may be.
func thrownQuery(thrown *stream) api.Query {
	q := may()
	rarely := func() bool { return thrown.below(12) == 0 }
	if rarely() {
		q.Span = api.Span{From: int64(thrown.below(9) - 2), To: int64(thrown.below(9) - 2)}
	}
	if rarely() {
		q.Filter = api.Filter{Kind: thrown.below(10), Dim: thrown.below(5) - 1, Texts: slices.Repeat([]string{"t"}, thrown.below(4))}
	}
	if rarely() {
		q.Grain = int64(thrown.below(4)-2) << 40
	}
	if thrown.below(2) == 0 {
		q.Sets = nil
		for range thrown.below(67) {
			set := []int{}
			for dim := range 4 {
				if thrown.below(3) == 0 && (dim < 3 || rarely()) {
					set = append(set, dim)
				}
			}
			if len(set) > 1 && rarely() && rarely() {
				slices.Reverse(set)
			}
			q.Sets = append(q.Sets, set)
		}
	}
	if thrown.below(2) == 0 {
		q.Aggs = nil
		for range thrown.below(18) {
			q.Aggs = append(q.Aggs, fineAggs[thrown.below(len(fineAggs))])
			if rarely() {
				q.Aggs[len(q.Aggs)-1].Col = thrown.below(5) - 1
			}
		}
	}
	q.Groups, q.Rows = thrown.below(10200), thrown.below(10200)
	if rarely() {
		q.Groups, q.Rows = 10000+thrown.below(2), 10000+thrown.below(2)
	}
	return q
}

// TestThrown: P8.1, of thrown queries the answer is that of the table.
func TestThrown(t *testing.T) {
	thrown := stream(83)
	told := map[string]int{}
	for range 20000 {
		s, q := schema, thrownQuery(&thrown)
		if thrown.below(9) == 0 {
			s = api.Schema{Dims: thrown.below(11) - 1, Meas: thrown.below(11) - 1}
		}
		field, at := plainCheck(s, q)
		expect(t, s, q, field, at)
		told[field]++
	}
	if len(told) != 9 {
		t.Error("not all of the table was met:", told)
	}
}

// deep is a query in memory of its own.
func deep(q api.Query) api.Query {
	q.Filter.Kids = slices.Clone(q.Filter.Kids)
	for at := range q.Filter.Kids {
		q.Filter.Kids[at].Texts = slices.Clone(q.Filter.Kids[at].Texts)
	}
	q.Sets = slices.Clone(q.Sets)
	for at := range q.Sets {
		q.Sets[at] = slices.Clone(q.Sets[at])
	}
	q.Aggs = slices.Clone(q.Aggs)
	return q
}

// TestCheckApart: P8.1, a query stays as it was, and what was told once isn't told otherwise when an answer is written into.
func TestCheckApart(t *testing.T) {
	thrown := stream(84)
	for range 3000 {
		q := thrownQuery(&thrown)
		was := deep(q)
		field, at := plainCheck(schema, q)
		expect(t, schema, q, field, at)
		if w, ok := Check(schema, q).(*Wrong); ok {
			w.Field, w.At = "spoilt", 99
		}
		expect(t, schema, q, field, at)
		if !reflect.DeepEqual(q, was) {
			t.Fatalf("changed: %+v, it was %+v", q, was)
		}
	}
}
