package historical

import (
	"gristmill/api"
	"gristmill/engine"
	"gristmill/query"
)

// answer is what the node sends for a question.
func (n *Node) answer(m api.Msg) []api.Msg {
	groups, code := n.groups(m.Query, m.Piece)
	return []api.Msg{{Kind: api.MsgPart, From: n.id, To: m.From, Ask: m.Ask, Code: code, Groups: groups}}
}

// groups are a query's of a piece.
func (n *Node) groups(q api.Query, p api.Piece) ([]api.Group, api.Errno) {
	if query.Check(n.setup.Schema, q) != nil {
		return nil, api.ErrQuery
	}
	g := n.shelf.segment(p.Seg)
	if g == nil {
		return nil, api.ErrNone
	}
	groups, err := engine.Run(g, q, p.Span)
	return groups, query.Code(err)
}
