package engine

import (
	"slices"
	"testing"

	"gristmill/api"
	"gristmill/segment"
)

// TestRunAndPlain: P11.2, P11.3, Run of a segment and Plain of its facts, in any order, answer the same, and what the document says.
func TestRunAndPlain(t *testing.T) {
	thrown := stream(13)
	met := 0
	for range 500 {
		c := thrown.schema()
		l := thrown.facts(c, 40)
		for range 10 {
			q, s := thrown.query(c), thrown.span()
			if thrown.below(3) == 0 {
				s = anywhere
			}
			expectPlain(t, c, l, q, s)
			want := show(plainGroups(q, l, s))
			met += len(want)
			g := made(t, c, l...)
			for _, same := range [][]api.Many{g.Facts(), thrown.mixed(l)} {
				groups, err := Plain(c, q, same, s)
				expectTexts(t, "Plain", groups, err, want)
			}
		}
	}
	if met < 3000 {
		t.Errorf("only %d groups were thrown", met)
	}
}

// cuts are spans that share nothing and together hold what a span does: it cut at some moments.
func (s *stream) cuts(whole api.Span) []api.Span {
	moments := []int64{whole.From, whole.To}
	for range s.below(4) {
		if at := s.time(); at > whole.From && at < whole.To {
			moments = append(moments, at)
		}
	}
	slices.Sort(moments)
	var out []api.Span
	for at := range len(moments) - 1 {
		out = append(out, api.Span{From: moments[at], To: moments[at+1]})
	}
	return out
}

// TestCutSpans: P11.3, spans that share nothing and together hold the query's: the groups of each, merged, are those of the query.
func TestCutSpans(t *testing.T) {
	thrown := stream(14)
	for range 300 {
		c := thrown.schema()
		l := thrown.facts(c, 40)
		g := made(t, c, l...)
		q := thrown.query(c)
		whole, err := Run(g, q, q.Span)
		expectTexts(t, "whole", whole, err, show(plainGroups(q, l, anywhere)))
		for _, span := range []api.Span{q.Span, anywhere} {
			var runs, plains [][]api.Group
			for _, s := range thrown.cuts(span) {
				run, err := Run(g, q, s)
				expectTexts(t, "a part", run, err, show(plainGroups(q, l, s)))
				plain, err := Plain(c, q, l, s)
				expectTexts(t, "a part", plain, err, show(run))
				runs, plains = append(runs, run), append(plains, plain)
			}
			slices.Reverse(plains)
			expectTexts(t, "runs merged", merged(t, c, q, runs...), nil, show(whole))
			expectTexts(t, "plains merged", merged(t, c, q, plains...), nil, show(whole))
		}
	}
}

// TestCutSegment: P11.3, a segment cut in two, at any row, or within a row: merged, the whole's.
func TestCutSegment(t *testing.T) {
	thrown := stream(15)
	for range 60 {
		c := thrown.schema()
		g := made(t, c, thrown.facts(c, 25)...)
		q, s := thrown.query(c), anywhere
		if thrown.below(2) == 0 {
			s = thrown.span()
		}
		whole, err := Run(g, q, s)
		expectTexts(t, "whole", whole, err, show(plainGroups(q, g.Facts(), s)))
		for row := range g.Rows() + 1 {
			facts := g.Facts()
			expectHalves(t, g, q, s, facts[:row], facts[row:], show(whole))
		}
		for row, m := range g.Facts() {
			if m.N < 2 {
				continue
			}
			ahead, behind := g.Facts()[:row+1], g.Facts()[row:]
			ahead[row].N, behind[0].N = 1, m.N-1
			expectHalves(t, g, q, s, ahead, behind, show(whole))
		}
	}
}

// expectHalves asks that the segments of two halves answer, merged, what is wanted.
func expectHalves(t *testing.T, g *segment.Segment, q api.Query, s api.Span, a, b []api.Many, want []string) {
	t.Helper()
	c := g.Schema()
	left, err := Run(made(t, c, a...), q, s)
	if err != nil {
		t.Fatal(err)
	}
	right, err := Run(made(t, c, b...), q, s)
	if err != nil {
		t.Fatal(err)
	}
	expectTexts(t, "halves", merged(t, c, q, left, right), nil, want)
	expectTexts(t, "halves turned", merged(t, c, q, right, left), nil, want)
	rest, err := Plain(c, q, b, s)
	expectTexts(t, "a half and plain facts", merged(t, c, q, left, rest), err, want)
}
