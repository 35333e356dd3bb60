package coordinator

import (
	"slices"

	"gristmill/api"
	"gristmill/rules"
)

// pair is a segment and a node.
type pair struct {
	seg  api.Seg
	node int
}

// sending is an order, and the tick at which it was sent.
type sending struct {
	api.Order
	tick int
}

// order has segments loaded and dropped, so that they are where they are to be: what it sends.
func (n *Node) order(now int, v *view) []api.Msg {
	living := n.living(now)
	have := rules.Apply(n.has(living), n.underWay())
	var l []api.Msg
	for _, o := range rules.Assign(v.line.Visible(), have, living, n.setup.Replicas) {
		p := pair{o.Seg, o.Node}
		n.sent[p] = append(n.sent[p], sending{o, now})
		l = append(l, api.Msg{Kind: api.MsgOrder, From: n.id, To: o.Node, Term: n.term, Order: o})
	}
	return l
}

// underWay are the orders of which their nodes told nothing yet; the others are forgotten. Those of one pair stand as
// they were sent; what comes of others' orders doesn't hang on them.
func (n *Node) underWay() []api.Order {
	var l []api.Order
	still := map[pair][]sending{}
	for p, row := range n.sent {
		row = slices.DeleteFunc(row, n.isOver)
		if len(row) > 0 {
			still[p] = row
		}
		for _, s := range row {
			l = append(l, s.Order)
		}
	}
	n.sent = still
	return l
}

// isOver tells whether what was sent is done, or was lost: what its node has is known from then on.
func (n *Node) isOver(s sending) bool { return n.stores[s.Node-api.Store].passed(s.tick) }
