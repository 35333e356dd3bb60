package coordinator

import (
	"gristmill/api"
	"gristmill/away"
	"gristmill/blobname"
	"gristmill/fact"
	"gristmill/grain"
	"gristmill/segment"
	"gristmill/wire"
)

// Compact puts the segments of a span together.
func (n *Node) Compact(s api.Span, b api.Book, d api.Deep) api.Errno {
	v, code := n.open(b, d)
	if code != api.OK {
		return code
	}
	var within []api.Seg
	for _, shown := range v.line.Visible() {
		if grain.Covers(s, shown.Span) {
			within = append(within, shown)
		}
	}
	together := grain.Union(spansOf(within))
	switch {
	case len(together) == 0:
		return api.ErrNone
	case len(together) > 1:
		return api.ErrArg
	case len(v.line.Lookup(together[0])) < 2:
		return api.ErrNone
	}
	return n.replace(together, api.Span{}, v, b, d)
}

// Wipe takes the published facts of a span away.
func (n *Node) Wipe(s api.Span, b api.Book, d api.Deep) api.Errno {
	v, code := n.open(b, d)
	if code != api.OK {
		return code
	}
	if grain.Empty(s) || !grain.Covers(api.Span{From: 0, To: api.MaxTime}, s) {
		return api.ErrArg
	}
	var shown []api.Seg
	for _, p := range v.line.Lookup(s) {
		shown = append(shown, p.Seg)
	}
	return n.replace(spansOf(shown), s, v, b, d)
}

// open is what there is for one who leads, if it is to be had.
func (n *Node) open(b api.Book, d api.Deep) (*view, api.Errno) {
	if !n.made() || b == nil || d == nil {
		return nil, api.ErrArg
	}
	return n.look(b)
}

// replace publishes, for each of some spans, one segment of its facts, but for those that are wiped.
func (n *Node) replace(spans []api.Span, wiped api.Span, v *view, b api.Book, d api.Deep) api.Errno {
	bags := make([][]api.Many, len(spans))
	for at, span := range spans {
		facts, code := v.facts(span, d)
		if code != api.OK {
			return code
		}
		bags[at] = fact.Without(facts, wiped)
	}
	t := api.Txn{Epoch: v.Epoch, Wipe: wiped}
	var blobs [][]byte
	for at, span := range spans {
		blob, code := segment.Build(n.setup.Schema, bags[at])
		if code != api.OK {
			return api.ErrArg
		}
		blobs = append(blobs, blob)
		t.Add = append(t.Add, metaOf(span, v, blob, len(bags[at])))
	}
	return n.publish(t, blobs, b, d)
}

// metaOf is what is published of a span's segment.
func metaOf(span api.Span, v *view, blob []byte, rows int) api.Meta {
	// At an epoch a span's facts are what they are; but which of them are wiped is told by the bytes alone.
	name := blobname.Of("c", blob, uint64(v.Epoch), uint64(span.From), uint64(span.To))
	s := api.Seg{Span: span, Version: v.nextVersion(span), Part: 0, Core: 1}
	return api.Meta{Seg: s, Blob: name, Sum: wire.Sum(blob), Rows: rows}
}

// publish asks a transaction, once all that it publishes lies in deep storage.
func (n *Node) publish(t api.Txn, blobs [][]byte, b api.Book, d api.Deep) api.Errno {
	for at, m := range t.Add {
		if code := away.Put(d, m.Blob, blobs[at]); code != api.OK {
			return code
		}
	}
	return n.do(b, t)
}
