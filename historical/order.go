package historical

import (
	"slices"

	"gristmill/api"
	"gristmill/away"
)

// sources are the metadata and deep storage, as they are at a tick.
type sources struct {
	book api.Book
	deep api.Deep
}

// obey lets an order wait, if it is for this node, and nobody was elected behind the one who gives it.
func (n *Node) obey(term int, o api.Order) {
	if term < n.term || o.Node != n.id {
		return
	}
	n.term = term
	if !slices.Contains(n.orders, o) {
		n.orders = append(n.orders, o)
	}
}

// follow does the orders that wait, one behind the other, till one can't be done.
func (n *Node) follow(from sources) {
	done := 0
	for done < len(n.orders) && n.do(n.orders[done], from) {
		done++
	}
	n.orders = slices.Delete(n.orders, 0, done)
}

// do tells whether an order is done, and needn't wait any more.
func (n *Node) do(o api.Order, from sources) bool {
	way := n.load
	if o.Drop {
		way = n.drop
	}
	return way(o.Seg, from)
}

// drop takes a segment away.
func (n *Node) drop(s api.Seg, _ sources) bool {
	if n.shelf.segment(s) == nil {
		return true
	}
	if n.shelf.remove(s) != api.OK {
		return false
	}
	n.untold = true
	return true
}

// load has a segment served, as far as it is published.
func (n *Node) load(s api.Seg, from sources) bool {
	if n.shelf.segment(s) != nil {
		return true
	}
	state, code := away.State(from.book)
	if code != api.OK {
		return false
	}
	at := slices.IndexFunc(state.Metas, func(m api.Meta) bool { return m.Seg == s })
	if at < 0 {
		return true
	}
	return n.fetch(state.Metas[at], from.deep)
}

// fetch takes what was published out of deep storage. What is there, and isn't that, would be no other at a later tick,
// and isn't waited for.
func (n *Node) fetch(m api.Meta, d api.Deep) bool {
	b, code := away.Get(d, m.Blob)
	if code == api.ErrSum {
		// So a blob is answered that is there, but spoilt.
		return true
	}
	if code != api.OK {
		return false
	}
	g := n.shelf.read(b, m.Sum)
	if g == nil || g.Rows() != m.Rows {
		return true
	}
	if n.shelf.put(label{m.Seg, m.Sum}, b, g) != api.OK {
		return false
	}
	n.untold = true
	return true
}
