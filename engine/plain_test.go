package engine

import (
	"cmp"
	"fmt"
	"math"
	"slices"
	"strings"
	"testing"

	"gristmill/api"
	"gristmill/bits"
	"gristmill/filter"
	"gristmill/segment"
	"gristmill/table"
)

const (
	least = math.MinInt64
	great = math.MaxInt64
	most  = math.MaxUint64
	last  = api.MaxTime - 1
)

var (
	always   = api.Span{To: api.MaxTime}
	anywhere = api.Span{From: least, To: great}
	never    = api.Span{}
)

// many is a fact, so many times.
func many(n uint64, time int64, dims []string, meas ...int64) api.Many {
	return api.Many{Fact: api.Fact{Time: time, Dims: dims, Meas: meas}, N: n}
}

// one is a fact with one dimension and one measure, so many times.
func one(n uint64, time int64, text string, meas int64) api.Many {
	return many(n, time, []string{text}, meas)
}

// oneOne is the schema of such facts.
var oneOne = api.Schema{Dims: 1, Meas: 1}

// made is a segment of facts, read from its bytes.
func made(t *testing.T, c api.Schema, l ...api.Many) *segment.Segment {
	t.Helper()
	b, code := segment.Build(c, l)
	if code != api.OK {
		t.Fatalf("Build of %+v, %d facts: %v", c, len(l), code)
	}
	g, code := segment.Read(b)
	if code != api.OK {
		t.Fatalf("Read: %v", code)
	}
	return g
}

// The filters, each of its own kind.

func all() api.Filter { return api.Filter{Kind: api.FilterAll} }

func not(kid api.Filter) api.Filter {
	return api.Filter{Kind: api.FilterNot, Kids: []api.Filter{kid}}
}

func and(kids ...api.Filter) api.Filter { return api.Filter{Kind: api.FilterAnd, Kids: kids} }

func or(kids ...api.Filter) api.Filter { return api.Filter{Kind: api.FilterOr, Kids: kids} }

func is(dim int, texts ...string) api.Filter {
	return api.Filter{Kind: api.FilterIs, Dim: dim, Texts: texts}
}

func between(dim int, from, to string) api.Filter {
	return api.Filter{Kind: api.FilterRange, Dim: dim, Texts: []string{from, to}}
}

func begin(dim int, text string) api.Filter {
	return api.Filter{Kind: api.FilterBegin, Dim: dim, Texts: []string{text}}
}

func meas(at int, lo, hi int64) api.Filter {
	return api.Filter{Kind: api.FilterMeas, Dim: at, Lo: lo, Hi: hi}
}

// expectRows asks that a set of the segment's rows has just these.
func expectRows(t *testing.T, g *segment.Segment, f api.Filter, want ...int) {
	t.Helper()
	set, code := Where(g, f)
	if code != api.OK || set == nil || set.Rows() != g.Rows() || !slices.Equal(set.List(), want) {
		t.Errorf("of %#v: rows %d of %d, %v, not %d of %d", f, set.List(), set.Rows(), code, want, g.Rows())
	}
}

// plainRows are the rows of whose facts filter.Holds tells that a filter holds.
func plainRows(g *segment.Segment, f api.Filter) []int {
	var rows []int
	for row, m := range g.Facts() {
		if filter.Holds(f, m.Fact) {
			rows = append(rows, row)
		}
	}
	return rows
}

// expectHolds asks that Where answers just the rows of which filter.Holds does, and that of its Not just the others.
func expectHolds(t *testing.T, g *segment.Segment, f api.Filter) {
	t.Helper()
	expectRows(t, g, f, plainRows(g, f)...)
	if filter.Check(g.Schema(), not(f)) == api.OK {
		expectRows(t, g, not(f), plainRows(g, not(f))...)
	}
	if filter.Check(g.Schema(), not(not(f))) == api.OK {
		expectRows(t, g, not(not(f)), plainRows(g, f)...)
	}
}

func expectWhereRefused(t *testing.T, g *segment.Segment, f api.Filter) {
	t.Helper()
	if set, code := Where(g, f); set != (*bits.Set)(nil) || code != api.ErrArg {
		t.Errorf("of kind %d: %v, %v, not ErrArg", f.Kind, set, code)
	}
}

// plainGroups are what the document says of a query over facts within a span: the keys first, then of each one all facts that have it.
func plainGroups(q api.Query, l []api.Many, s api.Span) []api.Group {
	var taken []api.Many
	for _, m := range l {
		at := m.Fact.Time
		if m.N != 0 && q.Span.From <= at && at < q.Span.To && s.From <= at && at < s.To && filter.Holds(q.Filter, m.Fact) {
			taken = append(taken, m)
		}
	}
	var out []api.Group
	for set := range q.Sets {
		var keys []api.Key
		mine := map[string][]api.Many{}
		for _, m := range taken {
			key := plainKey(q, set, m.Fact)
			if mine[showKey(key)] == nil {
				keys = append(keys, key)
			}
			mine[showKey(key)] = append(mine[showKey(key)], m)
		}
		slices.SortFunc(keys, func(a, b api.Key) int {
			return cmp.Or(cmp.Compare(a.Bucket, b.Bucket), slices.Compare(a.Dims, b.Dims))
		})
		for _, key := range keys {
			group := api.Group{Key: key}
			for _, a := range q.Aggs {
				group.Parts = append(group.Parts, plainPart(a, mine[showKey(key)]))
			}
			out = append(out, group)
		}
	}
	return out
}

func plainKey(q api.Query, set int, f api.Fact) api.Key {
	key := api.Key{Set: set}
	if q.Grain > 0 {
		key.Bucket = f.Time - f.Time%q.Grain
	}
	for _, dim := range q.Sets[set] {
		key.Dims = append(key.Dims, f.Dims[dim])
	}
	return key
}

// plainPart is what an aggregator has of facts of which there is at least one.
func plainPart(a api.Agg, facts []api.Many) api.Partial {
	p := api.Partial{}
	var values []int64
	for _, m := range facts {
		p.N += m.N
		switch a.Kind {
		case api.AggSum:
			p.V += m.Fact.Meas[a.Col] * int64(m.N)
		case api.AggMin, api.AggMax:
			values = append(values, m.Fact.Meas[a.Col])
		case api.AggDistinct:
			p.Texts = append(p.Texts, m.Fact.Dims[a.Col])
		}
	}
	if a.Kind == api.AggMin {
		p.V = slices.Min(values)
	}
	if a.Kind == api.AggMax {
		p.V = slices.Max(values)
	}
	slices.Sort(p.Texts)
	p.Texts = slices.Compact(p.Texts)
	return p
}

func showKey(k api.Key) string { return fmt.Sprintf("%d %d %q", k.Set, k.Bucket, k.Dims) }

// show tells groups as texts; nil and empty lists are told alike.
func show(groups []api.Group) []string {
	out := []string{}
	for _, group := range groups {
		text := showKey(group.Key)
		for _, p := range group.Parts {
			text += fmt.Sprintf(" | %d %d %q", p.N, p.V, p.Texts)
		}
		out = append(out, text)
	}
	return out
}

func expectTexts(t *testing.T, what string, got []api.Group, err error, want []string) {
	t.Helper()
	if err != nil || !slices.Equal(show(got), want) {
		t.Fatalf("%s: %v\n%s\nnot\n%s", what, err, strings.Join(show(got), "\n"), strings.Join(want, "\n"))
	}
}

// expectGroups asks that Run of a segment of the facts, and Plain of them, answer just these groups.
func expectGroups(t *testing.T, c api.Schema, l []api.Many, q api.Query, s api.Span, want ...string) {
	t.Helper()
	groups, err := Run(made(t, c, l...), q, s)
	expectTexts(t, "Run", groups, err, want)
	groups, err = Plain(c, q, l, s)
	expectTexts(t, "Plain", groups, err, want)
}

// expectPlain asks that Run of a segment of the facts, and Plain of them, answer what the document says.
func expectPlain(t *testing.T, c api.Schema, l []api.Many, q api.Query, s api.Span) {
	t.Helper()
	expectGroups(t, c, l, q, s, show(plainGroups(q, l, s))...)
}

// merged are the groups of a table into which those of each row of groups were merged.
func merged(t *testing.T, c api.Schema, q api.Query, parts ...[]api.Group) []api.Group {
	t.Helper()
	x, err := table.New(c, q)
	if err != nil {
		t.Fatal(err)
	}
	for _, part := range parts {
		if code := x.Merge(part); code != api.OK {
			t.Fatalf("Merge of %q: %v", show(part), code)
		}
	}
	return x.Groups()
}

// stream tells numbers that look thrown, the same ones at each run.
type stream uint64

func (s *stream) below(n int) int {
	*s = *s*6364136223846793005 + 1442695040888963407
	return int(uint64(*s) >> 31 % uint64(n))
}

func (s *stream) text() string {
	return []string{"", "a", "b", "aa", "ab", "\x00", "\xff", "\xff\xff", "\xff\xfe", strings.Repeat("a", 64)}[s.below(10)]
}

func (s *stream) number() int64 {
	return []int64{0, 1, -1, 2, 7, -7, 1 << 33, least, great}[s.below(9)]
}

func (s *stream) time() int64 {
	return []int64{0, 1, 5, 6, 9, 10, 11, 50, 1 << 30, last}[s.below(10)]
}

func (s *stream) span() api.Span {
	times := []int64{least, -1, 0, 1, 5, 6, 10, 11, 12, 60, 1 << 30, last, api.MaxTime, great}
	return api.Span{From: times[s.below(len(times))], To: times[s.below(len(times))]}
}

// facts are thrown facts, of which some are alike.
func (s *stream) facts(c api.Schema, limit int) []api.Many {
	var l []api.Many
	for range s.below(limit) {
		m := many(uint64([]int{0, 1, 1, 2, 3, 1 << 40}[s.below(6)]), s.time(), nil)
		for range c.Dims {
			m.Fact.Dims = append(m.Fact.Dims, s.text())
		}
		for range c.Meas {
			m.Fact.Meas = append(m.Fact.Meas, s.number())
		}
		l = append(l, m)
		if s.below(4) == 0 {
			l = append(l, l[s.below(len(l))])
		}
	}
	return l
}

// filter is a thrown filter that may be by the schema, at most so deep.
func (s *stream) filter(c api.Schema, depth int) api.Filter {
	kind := 1 + s.below(8)
	switch {
	case depth < 2 && kind <= api.FilterOr,
		c.Dims == 0 && kind >= api.FilterIs && kind <= api.FilterBegin,
		c.Meas == 0 && kind == api.FilterMeas:
		return all()
	}
	switch kind {
	case api.FilterNot:
		return not(s.filter(c, depth-1))
	case api.FilterAnd, api.FilterOr:
		f := api.Filter{Kind: kind}
		for range s.below(4) {
			f.Kids = append(f.Kids, s.filter(c, depth-1))
		}
		return f
	case api.FilterIs:
		f := is(s.below(c.Dims))
		for range s.below(4) {
			f.Texts = append(f.Texts, s.text())
		}
		return f
	case api.FilterRange:
		return between(s.below(c.Dims), s.text(), s.text())
	case api.FilterBegin:
		return begin(s.below(c.Dims), s.text())
	case api.FilterMeas:
		return meas(s.below(c.Meas), s.number(), s.number())
	}
	return all()
}

// query is a thrown query that may be by the schema.
func (s *stream) query(c api.Schema) api.Query {
	q := api.Query{Span: s.span(), Filter: s.filter(c, 4), Grain: []int64{0, 0, 1, 5, 10, 1 << 40}[s.below(6)], Groups: 1 + s.below(3), Rows: s.below(3)}
	q.Span.From = min(max(q.Span.From, 0), api.MaxTime)
	q.Span.To = max(min(q.Span.To, api.MaxTime), q.Span.From)
	for range 1 + s.below(3) {
		set := []int{}
		for dim := range c.Dims {
			if s.below(2) == 0 {
				set = append(set, dim)
			}
		}
		q.Sets = append(q.Sets, set)
	}
	for range s.below(6) {
		a := api.Agg{Kind: 1 + s.below(5)}
		switch {
		case a.Kind == api.AggDistinct && c.Dims > 0:
			a.Col = s.below(c.Dims)
		case a.Kind != api.AggDistinct && a.Kind != api.AggCount && c.Meas > 0:
			a.Col = s.below(c.Meas)
		default:
			a.Kind = api.AggCount
		}
		q.Aggs = append(q.Aggs, a)
	}
	return q
}

func (s *stream) schema() api.Schema { return api.Schema{Dims: s.below(4), Meas: s.below(3)} }

// mixed are the same facts in another order.
func (s *stream) mixed(l []api.Many) []api.Many {
	out := slices.Clone(l)
	for at := range out {
		other := at + s.below(len(out)-at)
		out[at], out[other] = out[other], out[at]
	}
	return out
}
