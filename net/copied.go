package net

import "gristmill/api"

// copied is a message in new memory.
func copied(m api.Msg) api.Msg {
	m.Fact = copiedFact(m.Fact)
	m.Query = copiedQuery(m.Query)
	m.Segs = list(m.Segs)
	m.Groups = each(m.Groups, copiedGroup)
	return m
}

func copiedFact(f api.Fact) api.Fact {
	f.Dims = list(f.Dims)
	f.Meas = list(f.Meas)
	return f
}

func copiedQuery(q api.Query) api.Query {
	q.Filter = copiedFilter(q.Filter)
	q.Sets = each(q.Sets, list[int])
	q.Aggs = list(q.Aggs)
	return q
}

func copiedFilter(f api.Filter) api.Filter {
	f.Texts = list(f.Texts)
	f.Kids = each(f.Kids, copiedFilter)
	return f
}

func copiedGroup(g api.Group) api.Group {
	g.Key.Dims = list(g.Key.Dims)
	g.Parts = each(g.Parts, copiedPartial)
	return g
}

func copiedPartial(p api.Partial) api.Partial {
	p.Texts = list(p.Texts)
	return p
}

// list is a list in new memory, of items that have none of their own. An empty one is nil, lest it keep hold of
// the memory of the one that was handed in.
func list[T any](items []T) []T { return append([]T(nil), items...) }

// each is a list in new memory, of the copies of its items.
func each[T any](items []T, copyOf func(T) T) []T {
	var copies []T
	for _, item := range items {
		copies = append(copies, copyOf(item))
	}
	return copies
}
