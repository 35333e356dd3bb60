package filter

import (
	"slices"

	"gristmill/api"
)

// Not is a filter that holds just where another one doesn't, with no FilterNot but above what
// isn't FilterNot, FilterAnd or FilterOr.
func Not(f api.Filter) api.Filter {
	if tooGreat(f) {
		return api.Filter{}
	}
	return made(f, true)
}

// made is a filter, or Not of it if it is turned, in new memory.
func made(f api.Filter, turned bool) api.Filter {
	kind := f.Kind
	switch f.Kind {
	case api.FilterNot:
		if len(f.Kids) > 0 {
			return made(f.Kids[0], !turned)
		}
	case api.FilterAnd, api.FilterOr:
		if turned {
			kind = api.FilterAnd + api.FilterOr - kind
		}
		return api.Filter{Kind: kind, Kids: allMade(turned, f.Kids...)}
	}
	leaf := own(f)
	leaf.Texts = slices.Clone(leaf.Texts)
	if turned {
		return api.Filter{Kind: api.FilterNot, Kids: []api.Filter{leaf}}
	}
	return leaf
}

func allMade(turned bool, filters ...api.Filter) []api.Filter {
	out := make([]api.Filter, len(filters))
	for at, f := range filters {
		out[at] = made(f, turned)
	}
	return out
}
