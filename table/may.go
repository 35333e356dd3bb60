package table

import (
	"slices"

	"gristmill/agg"
	"gristmill/api"
	"gristmill/grain"
)

// mayAll tells whether all of these groups may be; the first one that may not ends the look.
func (t *Table) mayAll(groups []api.Group) bool {
	fine := 0
look:
	for _, g := range groups {
		if !t.mayKey(g.Key) || len(g.Parts) != len(t.query.Aggs) {
			break look
		}
		for at, part := range g.Parts {
			if part.N == 0 || part.N != g.Parts[0].N || !agg.May(t.schema, t.query.Aggs[at], part) {
				break look
			}
		}
		fine++
	}
	return fine == len(groups)
}

func (t *Table) mayKey(k api.Key) bool {
	if k.Set < 0 || k.Set >= len(t.query.Sets) || len(k.Dims) != len(t.query.Sets[k.Set]) {
		return false
	}
	return t.mayBucket(k.Bucket) && !slices.ContainsFunc(k.Dims, tooLong)
}

// mayBucket tells whether a bucket begins there in which there is a moment of the span.
func (t *Table) mayBucket(begin int64) bool {
	span, length := t.query.Span, t.query.Grain
	if grain.Empty(span) || grain.Bucket(begin, length) != begin {
		return false
	}
	return grain.Bucket(span.From, length) <= begin && begin <= grain.Bucket(span.To-1, length)
}

func tooLong(text string) bool { return len(text) > api.MaxText }
