package realtime

import (
	"gristmill/api"
	"gristmill/timeline"
)

// naming is the segments that are there while others are named, those that were named already among them.
type naming struct {
	there []api.Seg
	line  *timeline.Timeline
}

func namingAmong(metas []api.Meta) *naming {
	x := &naming{line: timeline.New()}
	for _, m := range metas {
		x.put(m.Seg)
	}
	return x
}

// put puts a segment in. One that no timeline takes counts at no time, but its numbers aren't given anew.
func (x *naming) put(s api.Seg) {
	x.there = append(x.there, s)
	x.line.Add(s)
}

// next is the name of a segment of a chunk's facts.
func (x *naming) next(chunk api.Span) api.Seg {
	counting := x.line.Lookup(api.Span{From: chunk.From, To: chunk.From + 1})
	if len(counting) == 0 {
		return api.Seg{Span: chunk, Version: x.greatestVersion(chunk) + 1}
	}
	s := counting[0].Seg
	s.Part = x.greatestPart(s) + 1
	return s
}

// greatestVersion is that of the segments that meet a span, 0 of none.
func (x *naming) greatestVersion(span api.Span) int {
	greatest := 0
	for _, s := range x.there {
		if max(s.Span.From, span.From) < min(s.Span.To, span.To) {
			greatest = max(greatest, s.Version)
		}
	}
	return greatest
}

// greatestPart is that of a segment's set.
func (x *naming) greatestPart(of api.Seg) int {
	greatest := of.Part
	for _, s := range x.there {
		if s.Span == of.Span && s.Version == of.Version {
			greatest = max(greatest, s.Part)
		}
	}
	return greatest
}

// name gives the batch's parts the names by which they are published at a state of these metas.
func (w *way) name(metas []api.Meta) {
	x := namingAmong(metas)
	for _, p := range w.parts {
		p.Seg = x.next(p.chunk)
		// Who told a segment of the name that it had meant another one.
		p.held = false
		x.put(p.Seg)
	}
}
