package realtime

import (
	"slices"

	"gristmill/api"
	"gristmill/engine"
	"gristmill/query"
)

// answer is what the node sends for a message.
func (n *Node) answer(m, told api.Msg) []api.Msg {
	told.From, told.To, told.Ask = n.number(), m.From, m.Ask
	return []api.Msg{told}
}

// take takes a fact, if it is its turn, and tells how many are taken.
func (n *Node) take(offset uint64, f api.Fact) api.Msg {
	// Behind the greatest offset there is none: by a number that turns round 0 would be the next one.
	if offset > n.Taken() {
		n.facts.Take(offset-n.ahead, f)
	}
	taken := n.Taken()
	code := api.ErrGap
	if offset <= taken {
		code = api.OK
	} else if offset == taken+1 {
		code = api.ErrFact
	}
	return api.Msg{Kind: api.MsgTake, Offset: taken, Code: code}
}

// tail tells a query's groups of the facts behind an offset.
func (n *Node) tail(q api.Query, offset uint64) api.Msg {
	if query.Check(n.Schema, q) != nil {
		return failed(api.ErrQuery)
	}
	if offset < n.ahead {
		return failed(api.ErrGone)
	}
	facts, _, code := n.facts.Behind(offset - n.ahead)
	if code != api.OK {
		return failed(code)
	}
	groups, err := engine.Plain(n.Schema, q, each(facts), api.Span{From: 0, To: api.MaxTime})
	if err != nil {
		return failed(query.Code(err))
	}
	return api.Msg{Kind: api.MsgPart, Offset: n.Taken(), Groups: groups}
}

// piece tells a query's groups of a segment that is served.
func (n *Node) piece(q api.Query, p api.Piece) api.Msg {
	if query.Check(n.Schema, q) != nil {
		return failed(api.ErrQuery)
	}
	served := n.served()
	at := slices.IndexFunc(served, func(s *part) bool { return s.Seg == p.Seg })
	if at < 0 {
		return failed(api.ErrNone)
	}
	groups, err := engine.Run(served[at].segment, q, p.Span)
	if err != nil {
		return failed(query.Code(err))
	}
	return api.Msg{Kind: api.MsgPart, Groups: groups}
}

func failed(code api.Errno) api.Msg { return api.Msg{Kind: api.MsgPart, Code: code} }

// each is facts, each once where it stands.
func each(facts []api.Fact) []api.Many {
	rows := make([]api.Many, len(facts))
	for at, f := range facts {
		rows[at] = api.Many{Fact: f, N: 1}
	}
	return rows
}
