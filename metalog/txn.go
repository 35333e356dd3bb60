package metalog

import (
	"cmp"
	"slices"

	"gristmill/api"
)

const (
	longestBlob   = 62
	lowestInBlob  = 33
	highestInBlob = 126
)

// wrong tells what is wrong with a transaction at a state.
func wrong(s api.State, t api.Txn) api.Errno {
	switch {
	case !mayBe(t, len(s.Offsets)):
		return api.ErrArg
	case t.Epoch != s.Epoch:
		return api.ErrEpoch
	case t.Term != 0 && t.Term != s.Term:
		return api.ErrTerm
	case !follow(t.Moves, s.Offsets):
		return api.ErrMove
	case !allNew(t.Add, s.Metas):
		return api.ErrTwice
	case !allThere(t.Drop, s.Metas):
		return api.ErrNone
	case len(s.Metas)-len(t.Drop)+len(t.Add) > api.MaxMetas:
		return api.ErrLimit
	}
	return api.OK
}

// behind is the state behind a transaction with which nothing is wrong.
func behind(s api.State, t api.Txn) api.State {
	next := copied(s)
	next.Epoch++
	dropped := setOf(t.Drop)
	next.Metas = slices.DeleteFunc(next.Metas, func(m api.Meta) bool { return dropped.has(m.Seg) })
	next.Metas = append(next.Metas, t.Add...)
	slices.SortFunc(next.Metas, bySegment)
	for _, m := range t.Moves {
		next.Offsets[m.Stream] = m.To
	}
	return next
}

// mayBe tells whether a transaction may be in a log of so many streams, whatever its state.
func mayBe(t api.Txn, streams int) bool {
	return t.Term >= 0 &&
		!slices.ContainsFunc(t.Add, func(m api.Meta) bool { return !metaMayBe(m) }) &&
		!slices.ContainsFunc(t.Drop, func(s api.Seg) bool { return !segmentMayBe(s) }) &&
		movesMayBe(t.Moves, streams) &&
		wipeMayBe(t.Wipe)
}

func segmentMayBe(s api.Seg) bool {
	return 0 <= s.Span.From && s.Span.From < s.Span.To && s.Span.To <= api.MaxTime &&
		s.Version >= 0 && s.Part >= 0 && s.Core >= 0
}

func metaMayBe(m api.Meta) bool {
	odd := func(c byte) bool { return c < lowestInBlob || c > highestInBlob }
	return segmentMayBe(m.Seg) && m.Rows >= 0 &&
		1 <= len(m.Blob) && len(m.Blob) <= longestBlob && !slices.ContainsFunc([]byte(m.Blob), odd)
}

func movesMayBe(moves []api.Move, streams int) bool {
	var moved [api.MaxStreams]bool
	for _, m := range moves {
		if m.Stream < 0 || m.Stream >= streams || moved[m.Stream] {
			return false
		}
		moved[m.Stream] = true
	}
	return true
}

func wipeMayBe(w api.Span) bool {
	return w.From >= w.To || 0 <= w.From && w.To <= api.MaxTime
}

// follow tells whether moves begin where their streams are, and don't go back.
func follow(moves []api.Move, offsets []uint64) bool {
	return !slices.ContainsFunc(moves, func(m api.Move) bool {
		return m.From != offsets[m.Stream] || m.To < m.From
	})
}

// allNew tells whether none of the metas is there, nor twice among them.
func allNew(add, there []api.Meta) bool {
	seen := setOf(segmentsOf(there))
	for _, m := range add {
		if !seen.put(m.Seg) {
			return false
		}
	}
	return true
}

// allThere tells whether each of the segments is there, and none twice among them.
func allThere(drop []api.Seg, there []api.Meta) bool {
	held, seen := setOf(segmentsOf(there)), setOf(nil)
	for _, s := range drop {
		if !held.has(s) || !seen.put(s) {
			return false
		}
	}
	return true
}

// bySegment is the order of metas.
func bySegment(a, b api.Meta) int {
	return cmp.Or(
		cmp.Compare(a.Seg.Span.From, b.Seg.Span.From),
		cmp.Compare(a.Seg.Span.To, b.Seg.Span.To),
		cmp.Compare(a.Seg.Version, b.Seg.Version),
		cmp.Compare(a.Seg.Part, b.Seg.Part),
	)
}

func segmentsOf(metas []api.Meta) []api.Seg {
	segments := make([]api.Seg, len(metas))
	for at, m := range metas {
		segments[at] = m.Seg
	}
	return segments
}

// set is segments, each once.
type set map[api.Seg]struct{}

func setOf(segments []api.Seg) set {
	s := set{}
	for _, segment := range segments {
		s.put(segment)
	}
	return s
}

func (s set) has(segment api.Seg) bool {
	_, there := s[coreless(segment)]
	return there
}

// put tells whether the segment wasn't there yet.
func (s set) put(segment api.Seg) bool {
	fresh := !s.has(segment)
	s[coreless(segment)] = struct{}{}
	return fresh
}

// coreless is a segment without its Core, in which two that are one may differ.
func coreless(s api.Seg) api.Seg {
	s.Core = 0
	return s
}
