package timeline

import (
	"slices"
	"sort"

	"gristmill/api"
)

// stretch is a span at all times of which a set counts.
type stretch struct {
	of   key
	span api.Span
}

// always holds all times that a set may hold.
func always() api.Span {
	return api.Span{From: 0, To: api.MaxTime}
}

// meet tells whether two spans have a time in common; one that is empty has none.
func meet(a, b api.Span) bool {
	both := shared(a, b)
	return both.From < both.To
}

// shared is what spans that meet have in common.
func shared(a, b api.Span) api.Span {
	return api.Span{From: max(a.From, b.From), To: min(a.To, b.To)}
}

// stretches are those of complete sets, handed in as they stand, in their order in time.
func stretches(coming []key) []stretch {
	var out []stretch
	var begun []key // those that go ahead first; some may have ended
	edges := edgesOf(coming)
	for at, edge := range edges {
		for len(coming) > 0 && coming[0].span.From == edge {
			begun = putIn(begun, coming[0])
			coming = coming[1:]
		}
		first := slices.IndexFunc(begun, func(k key) bool { return edge < k.span.To })
		// Those ahead of it have ended, or all have, if there is none: no later edge needs them.
		if first < 0 {
			begun = nil
			continue
		}
		begun = begun[first:]
		// One that goes on has an edge ahead, where it ends: this one isn't the last.
		out = goOn(out, begun[0], api.Span{From: edge, To: edges[at+1]})
	}
	return out
}

// edgesOf are the times at which sets begin or end, rising.
func edgesOf(keys []key) []int64 {
	var edges []int64
	for _, k := range keys {
		edges = append(edges, k.span.From, k.span.To)
	}
	slices.Sort(edges)
	return slices.Compact(edges)
}

// putIn puts a set behind those that go ahead of it.
func putIn(begun []key, k key) []key {
	at := sort.Search(len(begun), func(i int) bool { return k.goesAhead(begun[i]) })
	return slices.Insert(begun, at, k)
}

// goOn puts the next span of a set that counts behind stretches, whose last one becomes longer if it is of that set.
func goOn(out []stretch, of key, span api.Span) []stretch {
	// A set has no gap: where no other one counted between, it counted all the while.
	if last := len(out) - 1; last >= 0 && out[last].of == of {
		out[last].span.To = span.To
		return out
	}
	return append(out, stretch{of: of, span: span})
}

// covered tells whether at each time that a set holds another one counts that goes ahead of it.
func covered(k key, counting []stretch) bool {
	first := sort.Search(len(counting), func(i int) bool { return k.span.From < counting[i].span.To })
	bare := k.span.From // the first time at which none was found yet
	for _, one := range counting[first:] {
		if bare >= k.span.To {
			break
		}
		if bare < one.span.From || !one.of.goesAhead(k) {
			return false
		}
		bare = one.span.To
	}
	return bare >= k.span.To
}
