package coordinator

import (
	"slices"

	"gristmill/api"
	"gristmill/away"
	"gristmill/fact"
	"gristmill/grain"
	"gristmill/segment"
	"gristmill/timeline"
)

// view is a state of the metadata, and which of its segments count when.
type view struct {
	api.State
	line *timeline.Timeline
}

// viewOf is a state's. A segment that no timeline takes counts at no time.
func viewOf(s api.State) *view {
	v := &view{State: s, line: timeline.New()}
	for _, m := range s.Metas {
		v.line.Add(m.Seg)
	}
	return v
}

// facts are those of a span.
func (v *view) facts(span api.Span, d api.Deep) ([]api.Many, api.Errno) {
	var rows []api.Many
	for _, p := range v.line.Lookup(span) {
		g, code := v.segment(p.Seg, d)
		if code != api.OK {
			return nil, code
		}
		rows = append(rows, fact.Within(g.Facts(), p.Span)...)
	}
	return fact.Join(rows, nil), api.OK
}

// segment is what was published by a name that counts.
func (v *view) segment(s api.Seg, d api.Deep) (*segment.Segment, api.Errno) {
	at := slices.IndexFunc(v.Metas, func(m api.Meta) bool { return m.Seg == s })
	b, code := away.Get(d, v.Metas[at].Blob)
	if code != api.OK {
		return nil, code
	}
	return segment.Read(b)
}

// nextVersion is one that goes ahead of all that were published and meet a span.
func (v *view) nextVersion(span api.Span) int {
	greatest := 0
	for _, m := range v.Metas {
		if !grain.Empty(grain.Meet(m.Seg.Span, span)) {
			greatest = max(greatest, m.Seg.Version)
		}
	}
	return greatest + 1
}

// names tells which blobs are named, by numbers above 0.
func (v *view) names() map[string]int {
	named := map[string]int{}
	for _, m := range v.Metas {
		named[m.Blob]++
	}
	return named
}

// set is what the segments of one have in common.
type set struct {
	span    api.Span
	version int
}

// spansOf are the spans of the sets of some segments, of each set once, in the order in which they are met.
func spansOf(segs []api.Seg) []api.Span {
	met := map[set]struct{}{}
	var spans []api.Span
	for _, s := range segs {
		one := set{s.Span, s.Version}
		if _, before := met[one]; !before {
			met[one] = struct{}{}
			spans = append(spans, s.Span)
		}
	}
	return spans
}
