package timeline

import (
	"math"
	"slices"
	"sort"
	"testing"

	"gristmill/api"
)

const (
	least = math.MinInt64
	great = math.MaxInt64
	most  = 1 << 40 // the last moment's end
)

// stream tells numbers that look thrown, the same ones at each run.
type stream uint64

func (s *stream) below(n int) int {
	*s = *s*6364136223846793005 + 1442695040888963407
	return int(uint64(*s) >> 31 % uint64(n))
}

// shuffled are the segments in an order that looks thrown.
func shuffled(s *stream, segments []api.Seg) []api.Seg {
	out := slices.Clone(segments)
	for at := len(out) - 1; at > 0; at-- {
		other := s.below(at + 1)
		out[at], out[other] = out[other], out[at]
	}
	return out
}

func seg(from, to int64, version, part, core int) api.Seg {
	return api.Seg{Span: api.Span{From: from, To: to}, Version: version, Part: part, Core: core}
}

// whole is a segment that is a complete set by itself.
func whole(from, to int64, version int) api.Seg {
	return seg(from, to, version, 0, 1)
}

// half is a segment whose set is never complete by it.
func half(from, to int64, version int) api.Seg {
	return seg(from, to, version, 0, 2)
}

func span(from, to int64) api.Span {
	return api.Span{From: from, To: to}
}

func piece(s api.Seg, from, to int64) api.Piece {
	return api.Piece{Seg: s, Span: span(from, to)}
}

// plain is a timeline as a row of segments, asked moment by moment, as the document's words say it.
type plain []api.Seg

func sameSet(a, b api.Seg) bool {
	return a.Span == b.Span && a.Version == b.Version
}

func (p plain) full(of api.Seg) bool {
	parts := map[int]int{}
	for _, s := range p {
		if sameSet(s, of) {
			parts[s.Part]++
		}
	}
	for part := range min(of.Core, len(p)+1) {
		if parts[part] == 0 {
			return false
		}
	}
	return true
}

// before tells whether the set of a segment goes ahead of another one's.
func before(a, b api.Seg) bool {
	if a.Version != b.Version {
		return a.Version > b.Version
	}
	if a.Span.From != b.Span.From {
		return a.Span.From > b.Span.From
	}
	return a.Span.To < b.Span.To
}

// at is the segments of the set that counts at a moment, by rising Parts.
func (p plain) at(moment int64) []api.Seg {
	var best []api.Seg
	for _, s := range p {
		if s.Span.From > moment || s.Span.To <= moment || !p.full(s) {
			continue
		}
		if len(best) == 0 || before(s, best[0]) {
			best = nil
		} else if before(best[0], s) {
			continue
		}
		best = append(best, s)
	}
	return stood(best)
}

// stood is segments as they stand.
func stood(segments []api.Seg) []api.Seg {
	out := slices.Clone(segments)
	sort.Slice(out, func(i, j int) bool {
		a, b := out[i], out[j]
		switch {
		case a.Span.From != b.Span.From:
			return a.Span.From < b.Span.From
		case a.Span.To != b.Span.To:
			return a.Span.To < b.Span.To
		case a.Version != b.Version:
			return a.Version < b.Version
		}
		return a.Part < b.Part
	})
	return out
}

// lookup goes through a span's moments; a moment that isn't from 0 to below the last one has nothing.
func (p plain) lookup(s api.Span, last int64) []api.Piece {
	var out []api.Piece
	var now []api.Seg
	for moment := max(s.From, 0); moment < min(s.To, last); moment++ {
		next := p.at(moment)
		if len(next) == 0 || len(now) == 0 || !sameSet(next[0], now[0]) {
			for _, s := range next {
				out = append(out, piece(s, moment, moment))
			}
		}
		for at := range next {
			out[len(out)-len(next)+at].Span.To = moment + 1
		}
		now = next
	}
	return out
}

func (p plain) visible() []api.Seg {
	return stood(slices.DeleteFunc(slices.Clone(p), func(s api.Seg) bool {
		for moment := s.Span.From; moment < s.Span.To; moment++ {
			if slices.Contains(p.at(moment), s) {
				return false
			}
		}
		return true
	}))
}

func (p plain) covered() []api.Seg {
	return stood(slices.DeleteFunc(slices.Clone(p), func(s api.Seg) bool {
		for moment := s.Span.From; moment < s.Span.To; moment++ {
			if counts := p.at(moment); len(counts) == 0 || !before(counts[0], s) {
				return true
			}
		}
		return false
	}))
}

func plainMayBe(s api.Seg) bool {
	if s.Span.From < 0 || s.Span.To <= s.Span.From || s.Span.To > most {
		return false
	}
	return s.Version > -1 && s.Part > -1 && s.Core > -1
}

func (p *plain) add(s api.Seg) api.Errno {
	if !plainMayBe(s) {
		return api.ErrArg
	}
	if slices.ContainsFunc(*p, func(o api.Seg) bool { return sameSet(o, s) && o.Part == s.Part }) {
		return api.ErrTwice
	}
	if slices.ContainsFunc(*p, func(o api.Seg) bool { return sameSet(o, s) && o.Core != s.Core }) {
		return api.ErrForm
	}
	*p = append(*p, s)
	return api.OK
}

func (p *plain) remove(s api.Seg) api.Errno {
	if !plainMayBe(s) {
		return api.ErrArg
	}
	at := slices.Index(*p, s)
	if at < 0 {
		return api.ErrNone
	}
	*p = slices.Delete(*p, at, at+1)
	return api.OK
}

// of is a timeline of segments, added in that order.
func of(t *testing.T, segments ...api.Seg) *Timeline {
	t.Helper()
	x := New()
	for _, s := range segments {
		expectCode(t, x.Add(s), api.OK)
	}
	return x
}

func expectCode(t *testing.T, got, want api.Errno) {
	t.Helper()
	if got != want {
		t.Fatalf("code %d, not %d", int(got), int(want))
	}
}

func expectLookup(t *testing.T, x *Timeline, s api.Span, want ...api.Piece) {
	t.Helper()
	if got := x.Lookup(s); !slices.Equal(got, want) {
		t.Fatalf("Lookup of %v: %v, not %v", s, got, want)
	}
}

func expectVisible(t *testing.T, x *Timeline, want ...api.Seg) {
	t.Helper()
	if got := x.Visible(); !slices.Equal(got, want) {
		t.Fatalf("Visible: %v, not %v", got, want)
	}
}

func expectCovered(t *testing.T, x *Timeline, want ...api.Seg) {
	t.Helper()
	if got := x.Covered(); !slices.Equal(got, want) {
		t.Fatalf("Covered: %v, not %v", got, want)
	}
}

// expectPlain holds all that a timeline tells against what it should tell, if no set of it ends behind last.
func expectPlain(t *testing.T, x *Timeline, p plain, last int64) {
	t.Helper()
	for from := int64(-1); from <= last+1; from++ {
		for to := from - 1; to <= last+2; to++ {
			expectLookup(t, x, span(from, to), p.lookup(span(from, to), last)...)
		}
	}
	expectLookup(t, x, span(least, great), p.lookup(span(least, great), last)...)
	expectVisible(t, x, p.visible()...)
	expectCovered(t, x, p.covered()...)
}

// thrown is a segment with its edges from 0 to last, of few spans, versions and parts, so that many meet.
func thrown(s *stream, last, versions int) api.Seg {
	from := s.below(last)
	to := from + 1 + s.below(last-from)
	version := s.below(versions)
	// A set's Core hangs on the set most of the time, so that sets have more than one part.
	core := (from + to + version) % 4
	if s.below(12) == 0 {
		core = s.below(4)
	}
	return seg(int64(from), int64(to), version, s.below(core+2), core)
}

// TestPlain: P15.1 to P15.3, calls as they come, against moment by moment.
func TestPlain(t *testing.T) {
	numbers := stream(15)
	for round := range 120 {
		x, p := New(), plain{}
		last := 2 + round%6
		for range 50 {
			s := thrown(&numbers, last, 1+round%4)
			if numbers.below(3) > 0 {
				expectCode(t, x.Add(s), p.add(s))
			} else {
				if len(p) > 0 && numbers.below(3) > 0 {
					s = p[numbers.below(len(p))]
				}
				expectCode(t, x.Remove(s), p.remove(s))
			}
			expectPlain(t, x, p, int64(last))
		}
	}
}

// TestPlainWhole: P15.2 and P15.3, many complete sets over one another, against moment by moment.
func TestPlainWhole(t *testing.T) {
	numbers := stream(16)
	for round := range 300 {
		x, p := New(), plain{}
		last := 1 + round%14
		for range 1 + numbers.below(14) {
			s := thrown(&numbers, last, 1+round%5)
			s.Part, s.Core = 0, numbers.below(8)/7*2
			expectCode(t, x.Add(s), p.add(s))
		}
		expectPlain(t, x, p, int64(last))
	}
}
