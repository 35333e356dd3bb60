package table

import (
	"errors"
	"fmt"
	"math"
	"reflect"
	"slices"
	"strings"
	"testing"

	"gristmill/api"
	"gristmill/query"
)

const (
	least = math.MinInt64
	great = math.MaxInt64
	most  = math.MaxUint64
)

var schema = api.Schema{Dims: 2, Meas: 1}

// may is a query that may be by schema, made anew each time.
func may() api.Query {
	return api.Query{
		Span:   api.Span{From: 5, To: 95},
		Filter: api.Filter{Kind: api.FilterAll},
		Grain:  10,
		Sets:   [][]int{{0, 1}, {0}, {}},
		Aggs:   []api.Agg{{Kind: api.AggCount}, {Kind: api.AggSum}},
		Groups: 100,
	}
}

// only is a query with one set, of no dimensions, and without aggregators, but for what change does.
func only(change func(*api.Query)) api.Query {
	q := may()
	q.Sets, q.Aggs = [][]int{{}}, nil
	change(&q)
	return q
}

func made(t *testing.T, q api.Query) *Table {
	t.Helper()
	x, err := New(schema, q)
	if err != nil || x == nil {
		t.Fatalf("%v of %+v", err, q)
	}
	return x
}

// event is a fact of schema.
func event(time int64, a, b string, meas int64) api.Fact {
	return api.Fact{Time: time, Dims: []string{a, b}, Meas: []int64{meas}}
}

func add(t *testing.T, x *Table, n uint64, facts ...api.Fact) {
	t.Helper()
	for _, f := range facts {
		if code := x.Add(api.Many{Fact: f, N: n}); code != api.OK {
			t.Errorf("%v of %+v", code, f)
		}
	}
}

func showKey(k api.Key) string { return fmt.Sprintf("%d %d %q", k.Set, k.Bucket, k.Dims) }

// showGroups tells groups as texts; nil and empty lists are told alike.
func showGroups(groups []api.Group) []string {
	out := []string{}
	for _, g := range groups {
		text := showKey(g.Key)
		for _, p := range g.Parts {
			text += fmt.Sprintf(" | %d %d %q", p.N, p.V, p.Texts)
		}
		out = append(out, text)
	}
	return out
}

func showRows(rows []api.Row) []string {
	out := []string{}
	for _, r := range rows {
		out = append(out, showKey(r.Key)+fmt.Sprintf(" = %d", r.Values))
	}
	return out
}

func expectTexts(t *testing.T, what string, got, want []string) {
	t.Helper()
	if !slices.Equal(got, want) {
		t.Errorf("%s:\n%s\nnot\n%s", what, strings.Join(got, "\n"), strings.Join(want, "\n"))
	}
}

// expectGroups asks for just these groups, and for as many by Len.
func expectGroups(t *testing.T, x *Table, want ...string) {
	t.Helper()
	expectTexts(t, "groups", showGroups(x.Groups()), want)
	if x.Len() != len(want) {
		t.Errorf("Len %d, not %d", x.Len(), len(want))
	}
}

func expectRows(t *testing.T, x *Table, want ...string) {
	t.Helper()
	rows, code := x.Rows()
	if code != api.OK {
		t.Errorf("%v", code)
	}
	expectTexts(t, "rows", showRows(rows), want)
}

// TestExample: the document's table.
func TestExample(t *testing.T) {
	s := api.Schema{Dims: 1}
	q := api.Query{Span: api.Span{To: 100}, Filter: api.Filter{Kind: api.FilterAll}, Grain: 10, Sets: [][]int{{0}, {}}, Aggs: []api.Agg{{Kind: api.AggCount}}, Groups: 5}
	x, err := New(s, q)
	if err != nil {
		t.Fatal(err)
	}
	for _, f := range []api.Fact{{Time: 3, Dims: []string{"a"}}, {Time: 4, Dims: []string{"b"}}, {Time: 12, Dims: []string{"a"}}} {
		add(t, x, 1, f)
	}
	expectRows(t, x, `0 0 ["a"] = [1]`, `0 0 ["b"] = [1]`, `0 10 ["a"] = [1]`, `1 0 [] = [2]`, `1 10 [] = [1]`)
	expectGroups(t, x, `0 0 ["a"] | 1 0 []`, `0 0 ["b"] | 1 0 []`, `0 10 ["a"] | 1 0 []`, `1 0 [] | 2 0 []`, `1 10 [] | 1 0 []`)
}

// TestNew: P9.1, a query that may be has a table without groups.
func TestNew(t *testing.T) {
	empty := may()
	empty.Span = api.Span{From: 5, To: 5}
	for _, q := range []api.Query{may(), empty, only(func(q *api.Query) {}), only(func(q *api.Query) { q.Grain = 0 })} {
		x := made(t, q)
		expectGroups(t, x)
		expectRows(t, x)
	}
	if x, err := New(api.Schema{}, api.Query{Filter: api.Filter{Kind: api.FilterAll}, Sets: [][]int{nil}, Groups: 1}); x == nil || err != nil || x.Len() != 0 {
		t.Errorf("%v, %v", x, err)
	}
}

// TestNewWrong: P9.1, of a query that query.Check refuses its error, with Field and At, and no table.
func TestNewWrong(t *testing.T) {
	cases := []struct {
		field  string
		at     int
		schema api.Schema
		change func(*api.Query)
	}{
		{"schema", 0, api.Schema{Dims: 9}, func(q *api.Query) {}},
		{"schema", 0, api.Schema{Dims: 2, Meas: -1}, func(q *api.Query) {}},
		{"span", 0, schema, func(q *api.Query) { q.Span = api.Span{From: 6, To: 5} }},
		{"filter", 0, schema, func(q *api.Query) { q.Filter = api.Filter{} }},
		{"grain", 0, schema, func(q *api.Query) { q.Grain = -1 }},
		{"sets", 0, schema, func(q *api.Query) { q.Sets = nil }},
		{"sets", 2, schema, func(q *api.Query) { q.Sets = [][]int{{0}, {1}, {2}, {3}} }},
		{"sets", 1, schema, func(q *api.Query) { q.Sets = [][]int{{0, 1}, {1, 0}} }},
		{"aggs", 1, schema, func(q *api.Query) { q.Aggs[1].Col = 1 }},
		{"aggs", 0, schema, func(q *api.Query) { q.Aggs = slices.Repeat([]api.Agg{{Kind: api.AggCount}}, 17) }},
		{"groups", 0, schema, func(q *api.Query) { q.Groups = 0 }},
		{"rows", 0, schema, func(q *api.Query) { q.Rows = -1 }},
		{"span", 0, schema, func(q *api.Query) { q.Span.From, q.Rows, q.Sets = -1, -1, nil }},
	}
	for _, c := range cases {
		q := may()
		c.change(&q)
		x, err := New(c.schema, q)
		var w *query.Wrong
		if x != nil || !errors.As(err, &w) || w.Field != c.field || w.At != c.at || !errors.Is(err, api.ErrQuery) {
			t.Errorf("%v, %v, not %s at %d", x, err, c.field, c.at)
		}
		if !reflect.DeepEqual(err, query.Check(c.schema, q)) {
			t.Errorf("%v isn't query.Check's", err)
		}
	}
}

// TestNil: P9.1, each call of a nil table.
func TestNil(t *testing.T) {
	var x *Table
	for _, m := range []api.Many{{}, {N: 1}, {Fact: event(7, "a", "b", 1), N: 1}, {Fact: api.Fact{Time: -1}}} {
		if code := x.Add(m); code != api.ErrArg {
			t.Errorf("Add: %v", code)
		}
	}
	for _, l := range [][]api.Group{nil, {}, {{}}, {{Key: api.Key{Set: -1}}}} {
		if code := x.Merge(l); code != api.ErrArg {
			t.Errorf("Merge: %v", code)
		}
	}
	if x.Len() != 0 || len(x.Groups()) != 0 {
		t.Errorf("%d, %v", x.Len(), x.Groups())
	}
	if rows, code := x.Rows(); len(rows) != 0 || code != api.ErrArg {
		t.Errorf("%v, %v", rows, code)
	}
}

// TestZero: rule 1, a table that New didn't make panics nowhere.
func TestZero(t *testing.T) {
	x := &Table{}
	x.Add(api.Many{N: 1})
	x.Add(api.Many{Fact: event(7, "a", "b", 1), N: 1})
	x.Merge(nil)
	x.Merge([]api.Group{{}, {Key: api.Key{Set: -1}}})
	x.Groups()
	x.Rows()
	if x.Len() != 0 {
		t.Error(x.Len())
	}
}

// parted is a query whose filter has all kinds, made anew each time.
func parted() api.Query {
	q := may()
	q.Filter = api.Filter{Kind: api.FilterAnd, Kids: []api.Filter{
		{Kind: api.FilterIs, Dim: 0, Texts: []string{"a", "b"}},
		{Kind: api.FilterBegin, Dim: 1, Texts: []string{"k"}},
		{Kind: api.FilterMeas, Dim: 0, Lo: 1, Hi: 9},
		{Kind: api.FilterRange, Dim: 0, Texts: []string{"a", "c"}},
		{Kind: api.FilterNot, Kids: []api.Filter{{Kind: api.FilterOr, Kids: []api.Filter{{Kind: api.FilterIs, Dim: 0, Texts: []string{"z"}}}}}},
		{Kind: api.FilterAll},
	}}
	return q
}

// TestQueryNotKept: P9.1, a schema or query that is changed behind New changes nothing of the table.
func TestQueryNotKept(t *testing.T) {
	s, q := schema, parted()
	x, err := New(s, q)
	if err != nil {
		t.Fatal(err)
	}
	if !reflect.DeepEqual(q, parted()) || s != schema {
		t.Errorf("changed: %+v, %+v", s, q)
	}
	kids := q.Filter.Kids
	is, begin, ranged, or := kids[0].Texts, kids[1].Texts, kids[3].Texts, kids[4].Kids
	s.Dims, s.Meas = 0, 0
	is[0], is[1], begin[0], ranged[1] = "x", "y", "z", "a"
	or[0].Kids[0].Texts[0], or[0].Kids[0].Dim, or[0].Kind = "a", 1, api.FilterAll
	kids[2], kids[5] = api.Filter{Kind: api.FilterOr}, api.Filter{Kind: api.FilterOr}
	q.Sets[0][0], q.Sets[0][1], q.Sets[1][0], q.Sets[2] = 1, 0, 1, []int{0, 1}
	q.Aggs[0], q.Aggs[1] = api.Agg{Kind: api.AggDistinct}, api.Agg{Kind: api.AggMax}
	q.Span, q.Grain, q.Groups, q.Rows = api.Span{}, 1, 1, 1
	add(t, x, 2, event(17, "a", "k", 3), event(19, "b", "kk", 9), event(17, "x", "k", 3), event(17, "a", "z", 3), event(17, "z", "k", 3), event(17, "a", "k", 10))
	expectRows(t, x, `0 10 ["a" "k"] = [2 6]`, `0 10 ["b" "kk"] = [2 18]`, `1 10 ["a"] = [2 6]`, `1 10 ["b"] = [2 18]`, `2 10 [] = [4 24]`)
}

// TestFilterWithoutEnd: rule 1, what a filter's kind hasn't isn't looked at, though it stands in itself.
func TestFilterWithoutEnd(t *testing.T) {
	kids := make([]api.Filter, 1)
	kids[0] = api.Filter{Kind: api.FilterAnd, Kids: kids}
	q := only(func(q *api.Query) { q.Filter = api.Filter{Kind: api.FilterIs, Texts: []string{"a"}, Kids: kids} })
	x := made(t, q)
	add(t, x, 1, event(7, "a", "b", 1), event(17, "b", "b", 1))
	expectGroups(t, x, `0 0 []`)
	if x, err := New(schema, only(func(q *api.Query) { q.Filter = kids[0] })); x != nil || err == nil {
		t.Errorf("%v, %v", x, err)
	}
}
