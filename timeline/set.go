package timeline

import (
	"cmp"
	"slices"

	"gristmill/api"
)

// key is what the segments of a set have in common, and no others.
type key struct {
	span    api.Span
	version int
}

// set is the rest of what is known of its segments.
type set struct {
	core  int
	parts []int // rising
}

func mayBe(s api.Seg) bool {
	return 0 <= s.Span.From && s.Span.From < s.Span.To && s.Span.To <= api.MaxTime &&
		s.Version >= 0 && s.Part >= 0 && s.Core >= 0
}

func keyOf(s api.Seg) key {
	return key{span: s.Span, version: s.Version}
}

// complete tells whether all Parts below the Core are there: as Parts rise from 0 on, the last of these stands where it does only if none is missing.
func (s set) complete() bool {
	return s.core == 0 || s.core <= len(s.parts) && s.parts[s.core-1] == s.core-1
}

// asTheyStand is the order in which sets are told.
func asTheyStand(a, b key) int {
	return cmp.Or(
		cmp.Compare(a.span.From, b.span.From),
		cmp.Compare(a.span.To, b.span.To),
		cmp.Compare(a.version, b.version),
	)
}

// goesAhead tells whether a set goes ahead of another one.
func (k key) goesAhead(of key) bool {
	return cmp.Or(
		cmp.Compare(of.version, k.version),
		cmp.Compare(of.span.From, k.span.From),
		cmp.Compare(k.span.To, of.span.To),
	) < 0
}

// keys are those of the sets that are wanted, as they stand.
func (t *Timeline) keys(wanted func(key) bool) []key {
	var keys []key
	for k := range t.sets {
		if wanted(k) {
			keys = append(keys, k)
		}
	}
	slices.SortFunc(keys, asTheyStand)
	return keys
}

// complete are the keys of the complete sets that hold a time of a span, as they stand.
func (t *Timeline) complete(span api.Span) []key {
	return t.keys(func(k key) bool { return meet(k.span, span) && t.sets[k].complete() })
}

// segments are those of sets, one set behind the other, each by rising Parts.
func (t *Timeline) segments(keys ...key) []api.Seg {
	var segments []api.Seg
	for _, k := range keys {
		of := t.sets[k]
		for _, part := range of.parts {
			segments = append(segments, api.Seg{Span: k.span, Version: k.version, Part: part, Core: of.core})
		}
	}
	return segments
}
