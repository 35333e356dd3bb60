package rules

import (
	"cmp"
	"maps"
	"slices"

	"gristmill/api"
)

// pair is a segment, and a node that holds it or is to.
type pair struct {
	seg  api.Seg
	node int
}

// holdings are who holds what: the keys alone say so.
type holdings map[pair]struct{}

// holdingsOf are those that orders say, whose Drop says nothing here.
func holdingsOf(have []api.Order) holdings {
	h := holdings{}
	for _, o := range have {
		h[pairOf(o)] = struct{}{}
	}
	return h
}

// follow has an order done.
func (h holdings) follow(o api.Order) {
	if o.Drop {
		delete(h, pairOf(o))
		return
	}
	h[pairOf(o)] = struct{}{}
}

// pairs are all of them, by their segments as they stand, of one segment by rising nodes.
func (h holdings) pairs() []pair {
	return slices.SortedFunc(maps.Keys(h), bySegment)
}

// place is a segment among holdings: what nodes are asked about it.
type place struct {
	holds holdings
	seg   api.Seg
}

func (p place) isOn(node int) bool {
	_, there := p.holds[pair{seg: p.seg, node: node}]
	return there
}

func (p place) isNotOn(node int) bool {
	return !p.isOn(node)
}

func pairOf(o api.Order) pair {
	return pair{seg: o.Seg, node: o.Node}
}

// asTheyStand is the order of segments.
func asTheyStand(a, b api.Seg) int {
	return cmp.Or(
		cmp.Compare(a.Span.From, b.Span.From),
		cmp.Compare(a.Span.To, b.Span.To),
		cmp.Compare(a.Version, b.Version),
		cmp.Compare(a.Part, b.Part),
		cmp.Compare(a.Core, b.Core),
	)
}

func bySegment(a, b pair) int {
	return cmp.Or(asTheyStand(a.seg, b.seg), cmp.Compare(a.node, b.node))
}
