package table

import (
	"cmp"
	"slices"
	"testing"

	"gristmill/api"
	"gristmill/filter"
)

// stream tells numbers that look thrown, the same ones at each run.
type stream uint64

func (s *stream) below(n int) int {
	*s = *s*6364136223846793005 + 1442695040888963407
	return int(uint64(*s) >> 31 % uint64(n))
}

func (s *stream) text() string {
	return []string{"", "a", "b", "aa", "ab", "\x00", ":", "1:a"}[s.below(8)]
}

func (s *stream) fact() api.Many {
	return api.Many{Fact: event(int64(s.below(100)), s.text(), s.text(), int64(s.below(21)-10)), N: uint64(s.below(4))}
}

func (s *stream) query() api.Query {
	from := int64(s.below(60))
	q := api.Query{Span: api.Span{From: from, To: from + int64(s.below(80))}, Filter: api.Filter{Kind: api.FilterAll}, Grain: []int64{0, 1, 7, 10, 50, 1 << 40}[s.below(6)], Groups: 10000}
	switch s.below(3) {
	case 0:
		q.Filter = api.Filter{Kind: api.FilterMeas, Lo: int64(s.below(10) - 10), Hi: int64(s.below(10))}
	case 1:
		q.Filter = api.Filter{Kind: api.FilterNot, Kids: []api.Filter{{Kind: api.FilterIs, Dim: s.below(2), Texts: []string{s.text(), s.text()}}}}
	}
	for range 1 + s.below(4) {
		q.Sets = append(q.Sets, [][]int{{}, {0}, {1}, {0, 1}}[s.below(4)])
	}
	for range s.below(6) {
		kind := 1 + s.below(5)
		agg := api.Agg{Kind: kind}
		if kind == api.AggDistinct {
			agg.Col = s.below(2)
		}
		q.Aggs = append(q.Aggs, agg)
	}
	return q
}

// model is what the document says of a query over facts, worked out in another way: the keys
// first, then of each one all facts that have it.
func model(q api.Query, facts []api.Many) []api.Group {
	var taken []api.Many
	for _, m := range facts {
		if m.N != 0 && q.Span.From <= m.Fact.Time && m.Fact.Time < q.Span.To && filter.Holds(q.Filter, m.Fact) {
			taken = append(taken, m)
		}
	}
	var groups []api.Group
	for set := range q.Sets {
		var keys []api.Key
		for _, m := range taken {
			keys = append(keys, modelKey(q, set, m.Fact))
		}
		slices.SortFunc(keys, modelOrder)
		keys = slices.CompactFunc(keys, func(a, b api.Key) bool { return modelOrder(a, b) == 0 })
		for _, key := range keys {
			var mine []api.Many
			for _, m := range taken {
				if modelOrder(modelKey(q, set, m.Fact), key) == 0 {
					mine = append(mine, m)
				}
			}
			g := api.Group{Key: key}
			for _, a := range q.Aggs {
				g.Parts = append(g.Parts, modelPart(a, mine))
			}
			groups = append(groups, g)
		}
	}
	return groups
}

func modelKey(q api.Query, set int, f api.Fact) api.Key {
	key := api.Key{Set: set}
	if q.Grain > 0 {
		key.Bucket = f.Time / q.Grain * q.Grain
	}
	for _, dim := range q.Sets[set] {
		key.Dims = append(key.Dims, f.Dims[dim])
	}
	return key
}

// modelOrder is of keys of one set.
func modelOrder(a, b api.Key) int {
	if a.Bucket != b.Bucket {
		return cmp.Compare(a.Bucket, b.Bucket)
	}
	for at := range a.Dims {
		if order := cmp.Compare(a.Dims[at], b.Dims[at]); order != 0 {
			return order
		}
	}
	return 0
}

func modelPart(a api.Agg, facts []api.Many) api.Partial {
	p := api.Partial{}
	for _, m := range facts {
		first := p.N == 0
		p.N += m.N
		switch v := m.Fact.Meas[0]; a.Kind {
		case api.AggSum:
			p.V += v * int64(m.N)
		case api.AggMin:
			if first || v < p.V {
				p.V = v
			}
		case api.AggMax:
			if first || v > p.V {
				p.V = v
			}
		case api.AggDistinct:
			if text := m.Fact.Dims[a.Col]; !slices.Contains(p.Texts, text) {
				p.Texts = append(p.Texts, text)
			}
		}
	}
	slices.Sort(p.Texts)
	return p
}

func modelRows(q api.Query, groups []api.Group) []api.Row {
	var rows []api.Row
	for _, g := range groups {
		row := api.Row{Key: g.Key}
		for at, a := range q.Aggs {
			value := g.Parts[at].V
			switch a.Kind {
			case api.AggCount:
				value = int64(g.Parts[at].N)
			case api.AggDistinct:
				value = int64(len(g.Parts[at].Texts))
			}
			row.Values = append(row.Values, value)
		}
		rows = append(rows, row)
	}
	return rows
}

func shuffle(s *stream, facts []api.Many) {
	for n := len(facts) - 1; n > 0; n-- {
		other := s.below(n + 1)
		facts[n], facts[other] = facts[other], facts[n]
	}
}

func addAll(t *testing.T, x *Table, facts []api.Many) {
	t.Helper()
	for _, m := range facts {
		add(t, x, m.N, m.Fact)
	}
}

// TestFollows: P9.4, the same facts in any order, one by one or N at once, and spread over tables
// that are merged by Groups in any order, say the same: what the document says of them.
func TestFollows(t *testing.T) {
	random := stream(26)
	for range 300 {
		q := random.query()
		facts := make([]api.Many, random.below(60))
		for at := range facts {
			facts[at] = random.fact()
		}
		groups := model(q, facts)
		wantGroups, wantRows := showGroups(groups), showRows(modelRows(q, groups))
		for range 3 {
			shuffle(&random, facts)
			x := made(t, q)
			addAll(t, x, facts)
			expectGroups(t, x, wantGroups...)
			expectRows(t, x, wantRows...)

			x = made(t, q)
			for _, m := range facts {
				for range m.N {
					add(t, x, 1, m.Fact)
				}
			}
			expectGroups(t, x, wantGroups...)

			tables := []*Table{}
			for range 1 + random.below(5) {
				tables = append(tables, made(t, q))
			}
			for _, m := range facts {
				add(t, tables[random.below(len(tables))], m.N, m.Fact)
			}
			for len(tables) > 1 {
				from := random.below(len(tables)-1) + 1
				merge(t, tables[random.below(from)], tables[from].Groups()...)
				tables = slices.Delete(tables, from, from+1)
			}
			expectGroups(t, tables[0], wantGroups...)
			expectRows(t, tables[0], wantRows...)
		}
	}
}

// TestFollowsAtOnce: P9.4, the Groups of several tables one behind the other in one Merge, whatever their order.
func TestFollowsAtOnce(t *testing.T) {
	random := stream(7)
	for range 100 {
		q := random.query()
		var facts []api.Many
		var groups []api.Group
		for range 4 {
			x := made(t, q)
			for range random.below(15) {
				m := random.fact()
				facts = append(facts, m)
				add(t, x, m.N, m.Fact)
			}
			groups = append(groups, x.Groups()...)
		}
		want := showGroups(model(q, facts))
		x := made(t, q)
		merge(t, x, groups...)
		expectGroups(t, x, want...)
		slices.Reverse(groups)
		x = made(t, q)
		merge(t, x, groups...)
		expectGroups(t, x, want...)
		// What a table says of itself may be of its query, so a table without groups becomes it.
		y := made(t, q)
		merge(t, y, x.Groups()...)
		expectGroups(t, y, want...)
	}
}

// TestFollowsNoAggs: P9.4, where there are no aggregators groups are told with no Values.
func TestFollowsNoAggs(t *testing.T) {
	for _, aggs := range [][]api.Agg{nil, {}} {
		x := made(t, only(func(q *api.Query) { q.Sets, q.Aggs = [][]int{{0}, {}}, aggs }))
		add(t, x, 5, event(7, "b", "k", 1), event(7, "a", "k", 1), event(8, "a", "l", 2))
		expectGroups(t, x, `0 0 ["a"]`, `0 0 ["b"]`, `1 0 []`)
		expectRows(t, x, `0 0 ["a"] = []`, `0 0 ["b"] = []`, `1 0 [] = []`)
		rows, _ := x.Rows()
		for _, r := range rows {
			if len(r.Values) != 0 {
				t.Errorf("%+v", r)
			}
		}
	}
}
