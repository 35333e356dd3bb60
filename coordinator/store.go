package coordinator

import (
	"slices"

	"gristmill/api"
)

// store is what a historical node told.
type store struct {
	told    bool // it was heard ever
	count   uint64
	segs    []api.Seg // what it has
	fresh   bool      // it was heard since the last tick
	heardAt int       // at which tick that was seen last
}

// take takes what the node tells that it has, unless it is elder than what it told already.
func (s *store) take(count uint64, segs []api.Seg) {
	if !s.told || count > s.count {
		s.count, s.segs = count, slices.Clone(segs)
	}
	s.told, s.fresh = true, true
}

// passed tells whether the node told what it had behind a tick.
func (s *store) passed(tick int) bool {
	return s.told && (tick < 0 || s.count > uint64(tick))
}

// hear notes at a tick who was heard since the last one.
func (n *Node) hear(now int) {
	for at := range n.stores {
		s := &n.stores[at]
		if s.fresh {
			s.fresh, s.heardAt = false, now
		}
	}
}

// living are the numbers of the nodes that were heard lately.
func (n *Node) living(now int) []int {
	var living []int
	for at, s := range n.stores {
		if s.told && !ago(3*n.setup.Retry+1, s.heardAt, now) {
			living = append(living, api.Store+at)
		}
	}
	return living
}

// has is who of some nodes has what.
func (n *Node) has(nodes []int) []api.Order {
	var l []api.Order
	for _, node := range nodes {
		for _, s := range n.stores[node-api.Store].segs {
			l = append(l, api.Order{Seg: s, Node: node})
		}
	}
	return l
}

// ago tells whether a tick lies at least so many behind another one. (How far two ticks are apart may be more than the
// greatest int.)
func ago(ticks, since, now int) bool {
	return since <= now && uint64(now)-uint64(since) >= uint64(ticks)
}
