package table

import (
	"slices"

	"gristmill/api"
)

// ownQuery is a query that may be, in memory of its own.
func ownQuery(q api.Query) api.Query {
	q.Filter = ownFilter(q.Filter)
	sets := make([][]int, len(q.Sets))
	for at, set := range q.Sets {
		sets[at] = slices.Clone(set)
	}
	q.Sets = sets
	q.Aggs = slices.Clone(q.Aggs)
	return q
}

// ownFilter is a filter that may be, in memory of its own. What its kind hasn't is left out:
// nobody looked at it, so it may even have no end.
func ownFilter(f api.Filter) api.Filter {
	own := api.Filter{Kind: f.Kind, Dim: f.Dim, Lo: f.Lo, Hi: f.Hi}
	switch f.Kind {
	case api.FilterIs, api.FilterRange, api.FilterBegin:
		own.Texts = slices.Clone(f.Texts)
	case api.FilterNot, api.FilterAnd, api.FilterOr:
		for _, kid := range f.Kids {
			own.Kids = append(own.Kids, ownFilter(kid))
		}
	}
	return own
}

func ownGroup(g api.Group) api.Group {
	parts := make([]api.Partial, len(g.Parts))
	for at, part := range g.Parts {
		parts[at] = api.Partial{N: part.N, V: part.V, Texts: slices.Clone(part.Texts)}
	}
	return api.Group{Key: ownKey(g.Key), Parts: parts}
}

func ownKey(k api.Key) api.Key {
	k.Dims = slices.Clone(k.Dims)
	return k
}
