package timeline

import (
	"slices"
	"testing"

	"gristmill/api"
)

// TestExamples: the tables of the chapter and of the document.
func TestExamples(t *testing.T) {
	a0, b0, b1, c0 := seg(0, 10, 0, 0, 1), seg(3, 6, 1, 0, 2), seg(3, 6, 1, 1, 2), seg(3, 6, 1, 5, 2)
	third := whole(4, 5, 0)

	x := of(t, a0, b0)
	expectLookup(t, x, span(0, 8), piece(a0, 0, 8))
	expectVisible(t, x, a0)
	expectCovered(t, x)

	x = of(t, a0, b0, b1)
	expectLookup(t, x, span(0, 8), piece(a0, 0, 3), piece(b0, 3, 6), piece(b1, 3, 6), piece(a0, 6, 8))
	expectLookup(t, x, span(0, 10), piece(a0, 0, 3), piece(b0, 3, 6), piece(b1, 3, 6), piece(a0, 6, 10))
	expectVisible(t, x, a0, b0, b1)
	expectCovered(t, x)

	x = of(t, a0, b0, b1, c0)
	expectLookup(t, x, span(0, 8), piece(a0, 0, 3), piece(b0, 3, 6), piece(b1, 3, 6), piece(c0, 3, 6), piece(a0, 6, 8))
	expectVisible(t, x, a0, b0, b1, c0)
	expectCovered(t, x)

	x = of(t, b0, b1, third)
	expectLookup(t, x, span(0, 8), piece(b0, 3, 6), piece(b1, 3, 6))
	expectVisible(t, x, b0, b1)
	expectCovered(t, x, third)
}

// TestComplete: P15.2, which sets are complete.
func TestComplete(t *testing.T) {
	for _, c := range []struct {
		core  int
		parts []int
		full  bool
	}{
		{0, []int{0}, true},
		{0, []int{7}, true},
		{0, []int{3, 1}, true},
		{1, []int{0}, true},
		{1, []int{1}, false},
		{1, []int{1, 2, 3}, false},
		{1, []int{0, 9}, true},
		{2, []int{0}, false},
		{2, []int{1}, false},
		{2, []int{0, 1}, true},
		{2, []int{1, 0}, true},
		{2, []int{0, 2}, false},
		{2, []int{1, 2}, false},
		{2, []int{2, 3}, false}, // none below the Core, though as many as it
		{2, []int{5}, false},
		{2, []int{0, 1, 5}, true},
		{3, []int{0, 2}, false},
		{3, []int{0, 2, 3}, false},
		{3, []int{1, 2, 3}, false},
		{3, []int{0, 1, 3, 4, 5}, false},
		{3, []int{2, 0, 1}, true},
		{3, []int{5, 2, 4, 0, 3, 1}, true},
		{4, []int{0, 1, 2}, false},
		{greatest, []int{0, 1, greatest}, false},
	} {
		x := New()
		var segments []api.Seg
		for _, part := range c.parts {
			expectCode(t, x.Add(seg(2, 4, 0, part, c.core)), api.OK)
		}
		if c.full {
			slices.Sort(c.parts)
			for _, part := range c.parts {
				segments = append(segments, seg(2, 4, 0, part, c.core))
			}
		}
		expectVisible(t, x, segments...)
		if got := len(x.Lookup(span(0, 9))); got != len(segments) {
			t.Fatal(c, got)
		}
	}
}

// TestBecomesComplete: P15.2, by its last first Part a set is complete, and is so no more when one of these goes; one on top may go.
func TestBecomesComplete(t *testing.T) {
	under := whole(0, 9, 0)
	p0, p1, p2, p4 := seg(2, 5, 1, 0, 3), seg(2, 5, 1, 1, 3), seg(2, 5, 1, 2, 3), seg(2, 5, 1, 4, 3)
	incomplete := []api.Piece{piece(under, 0, 9)}
	x := of(t, under, p4)
	expectLookup(t, x, span(0, 9), incomplete...)
	for _, s := range []api.Seg{p2, p0} {
		expectCode(t, x.Add(s), api.OK)
		expectLookup(t, x, span(0, 9), incomplete...)
	}
	expectCode(t, x.Add(p1), api.OK)
	full := []api.Piece{piece(under, 0, 2), piece(p0, 2, 5), piece(p1, 2, 5), piece(p2, 2, 5), piece(p4, 2, 5), piece(under, 5, 9)}
	expectLookup(t, x, span(0, 9), full...)
	for _, s := range []api.Seg{p0, p1, p2} {
		expectCode(t, x.Remove(s), api.OK)
		expectLookup(t, x, span(0, 9), incomplete...)
		expectCode(t, x.Add(s), api.OK)
		expectLookup(t, x, span(0, 9), full...)
	}
	expectCode(t, x.Remove(p4), api.OK)
	expectLookup(t, x, span(0, 9), slices.Delete(full, 4, 5)...)
}

// TestAhead: P15.2, which of two sets counts where both hold a time: Version, then From, then To.
func TestAhead(t *testing.T) {
	for _, c := range []struct {
		a, b api.Seg
		want []api.Piece // of 0 to 10
	}{
		// The greater Version, whatever the spans are.
		{whole(0, 10, 2), whole(3, 6, 1), []api.Piece{piece(whole(0, 10, 2), 0, 10)}},
		{whole(3, 6, 2), whole(3, 6, 10), []api.Piece{piece(whole(3, 6, 10), 3, 6)}},
		{whole(0, 6, 1), whole(3, 9, 0), []api.Piece{piece(whole(0, 6, 1), 0, 6), piece(whole(3, 9, 0), 6, 9)}},
		{whole(0, 6, 0), whole(3, 9, 1), []api.Piece{piece(whole(0, 6, 0), 0, 3), piece(whole(3, 9, 1), 3, 9)}},
		{whole(3, 9, greatest), whole(3, 4, 0), []api.Piece{piece(whole(3, 9, greatest), 3, 9)}},
		// Of one Version the greater From, whatever To is.
		{whole(0, 6, 1), whole(3, 9, 1), []api.Piece{piece(whole(0, 6, 1), 0, 3), piece(whole(3, 9, 1), 3, 9)}},
		{whole(0, 10, 1), whole(3, 6, 1), []api.Piece{piece(whole(0, 10, 1), 0, 3), piece(whole(3, 6, 1), 3, 6), piece(whole(0, 10, 1), 6, 10)}},
		{whole(0, 9, 1), whole(3, 9, 1), []api.Piece{piece(whole(0, 9, 1), 0, 3), piece(whole(3, 9, 1), 3, 9)}},
		// Of one From, too, the less To.
		{whole(2, 9, 1), whole(2, 5, 1), []api.Piece{piece(whole(2, 5, 1), 2, 5), piece(whole(2, 9, 1), 5, 9)}},
		{whole(0, 2, 0), whole(0, 1, 0), []api.Piece{piece(whole(0, 1, 0), 0, 1), piece(whole(0, 2, 0), 1, 2)}},
		// Sets that touch, and sets apart.
		{whole(0, 3, 1), whole(3, 6, 1), []api.Piece{piece(whole(0, 3, 1), 0, 3), piece(whole(3, 6, 1), 3, 6)}},
		{whole(0, 3, 1), whole(3, 6, 0), []api.Piece{piece(whole(0, 3, 1), 0, 3), piece(whole(3, 6, 0), 3, 6)}},
		{whole(0, 3, 0), whole(5, 6, 4), []api.Piece{piece(whole(0, 3, 0), 0, 3), piece(whole(5, 6, 4), 5, 6)}},
		// An incomplete one hides nothing, wherever it lies.
		{half(0, 10, 7), whole(3, 6, 1), []api.Piece{piece(whole(3, 6, 1), 3, 6)}},
		{half(4, 5, 7), whole(3, 6, 1), []api.Piece{piece(whole(3, 6, 1), 3, 6)}},
		{half(3, 6, 7), whole(3, 6, 1), []api.Piece{piece(whole(3, 6, 1), 3, 6)}},
		{half(3, 6, 7), half(0, 10, 1), nil},
	} {
		expectLookup(t, of(t, c.a, c.b), span(0, 10), c.want...)
		expectLookup(t, of(t, c.b, c.a), span(0, 10), c.want...)
	}
}

// TestManyOver: P15.2, three and more sets over one another.
func TestManyOver(t *testing.T) {
	a, b, c, d := whole(0, 20, 0), whole(2, 18, 1), whole(5, 15, 2), whole(8, 12, 3)
	expectLookup(t, of(t, b, d, a, c), span(0, 20),
		piece(a, 0, 2), piece(b, 2, 5), piece(c, 5, 8), piece(d, 8, 12), piece(c, 12, 15), piece(b, 15, 18), piece(a, 18, 20))

	// The other way round the greatest hides all.
	a, b, c, d = whole(0, 20, 3), whole(2, 18, 2), whole(5, 15, 1), whole(8, 12, 0)
	expectLookup(t, of(t, b, d, a, c), span(0, 20), piece(a, 0, 20))

	// Steps, of one Version and of several.
	a, b, c = whole(0, 6, 0), whole(2, 8, 0), whole(4, 10, 0)
	expectLookup(t, of(t, c, a, b), span(0, 20), piece(a, 0, 2), piece(b, 2, 4), piece(c, 4, 10))
	a, b, c = whole(0, 6, 2), whole(2, 8, 1), whole(4, 10, 0)
	expectLookup(t, of(t, c, a, b), span(0, 20), piece(a, 0, 6), piece(b, 6, 8), piece(c, 8, 10))

	// One behind the first comes to count when those ahead have ended, not the one that came last.
	a, b, c = whole(0, 9, 1), whole(1, 5, 2), whole(2, 7, 0)
	expectLookup(t, of(t, a, b, c), span(0, 9), piece(a, 0, 1), piece(b, 1, 5), piece(a, 5, 9))

	// A gap between them stays one.
	a, b, c = whole(0, 2, 5), whole(4, 6, 0), whole(8, 9, 3)
	expectLookup(t, of(t, b, c, a), span(0, 9), piece(a, 0, 2), piece(b, 4, 6), piece(c, 8, 9))
}

// TestOneStretch: P15.2, a stretch can't be made longer: edges of sets that don't count there cut nothing.
func TestOneStretch(t *testing.T) {
	a := whole(0, 10, 5)
	x := of(t, a, whole(2, 4, 1), whole(3, 8, 2), whole(4, 6, 4), half(5, 7, 9), half(1, 9, 6), whole(0, 5, 0), whole(9, 12, 0))
	expectLookup(t, x, span(0, 10), piece(a, 0, 10))
	expectLookup(t, x, span(0, 20), piece(a, 0, 10), piece(whole(9, 12, 0), 10, 12))
	// Stretches of two sets that touch are two, even if all but their spans is one.
	expectLookup(t, of(t, whole(0, 3, 1), whole(3, 6, 1)), span(0, 9), piece(whole(0, 3, 1), 0, 3), piece(whole(3, 6, 1), 3, 6))
}

// TestSpans: P15.2, which times of stretches a span has, whatever its ends are.
func TestSpans(t *testing.T) {
	a, b, c := whole(2, 10, 0), whole(4, 6, 1), whole(12, 14, 0)
	x := of(t, a, b, c)
	for _, s := range []api.Span{
		span(5, 5), span(2, 2), span(5, 4), span(10, 2), span(14, 2), span(great, least), span(0, 0), span(least, least), span(great, great),
		span(0, 2), span(-5, 2), span(least, 2), span(10, 12), span(10, 11), span(11, 12), span(14, 20), span(14, great), span(great-1, great), span(least, least+1),
	} {
		expectLookup(t, x, s)
	}
	for _, c := range []struct {
		s    api.Span
		want []api.Piece
	}{
		{span(2, 3), []api.Piece{piece(a, 2, 3)}}, // one moment
		{span(3, 4), []api.Piece{piece(a, 3, 4)}},
		{span(4, 5), []api.Piece{piece(b, 4, 5)}},
		{span(5, 6), []api.Piece{piece(b, 5, 6)}},
		{span(6, 7), []api.Piece{piece(a, 6, 7)}},
		{span(9, 10), []api.Piece{piece(a, 9, 10)}},
		{span(13, 14), []api.Piece{piece(c, 13, 14)}},
		{span(2, 4), []api.Piece{piece(a, 2, 4)}}, // it ends where a stretch begins, begins where one ends
		{span(6, 10), []api.Piece{piece(a, 6, 10)}},
		{span(4, 6), []api.Piece{piece(b, 4, 6)}},
		{span(6, 12), []api.Piece{piece(a, 6, 10)}},
		{span(7, 9), []api.Piece{piece(a, 7, 9)}}, // within one stretch
		{span(3, 5), []api.Piece{piece(a, 3, 4), piece(b, 4, 5)}},
		{span(5, 13), []api.Piece{piece(b, 5, 6), piece(a, 6, 10), piece(c, 12, 13)}},
		{span(-7, 3), []api.Piece{piece(a, 2, 3)}},
		{span(least, 5), []api.Piece{piece(a, 2, 4), piece(b, 4, 5)}},
		{span(9, great), []api.Piece{piece(a, 9, 10), piece(c, 12, 14)}},
		{span(least, great), []api.Piece{piece(a, 2, 4), piece(b, 4, 6), piece(a, 6, 10), piece(c, 12, 14)}},
	} {
		expectLookup(t, x, c.s, c.want...)
	}
}

// TestWholeTime: P15.2, sets from 0 to the last moment, and spans that reach beyond both.
func TestWholeTime(t *testing.T) {
	a, b := whole(0, most, 0), whole(most-1, most, 1)
	x := of(t, a, b)
	all := []api.Piece{piece(a, 0, most-1), piece(b, most-1, most)}
	for _, s := range []api.Span{span(0, most), span(-1, most), span(0, most+1), span(-1, most+1), span(least, great)} {
		expectLookup(t, x, s, all...)
	}
	expectLookup(t, x, span(-1, 1), piece(a, 0, 1))
	expectLookup(t, x, span(most-2, most+2), piece(a, most-2, most-1), piece(b, most-1, most))
	for _, s := range []api.Span{span(-1, 0), span(least, 0), span(most, most+1), span(most, great)} {
		expectLookup(t, x, s)
	}
	expectVisible(t, x, a, b)
	expectCovered(t, x)
}

// TestOrderOfPieces: P15.2, by time, then by rising Parts, which are numbers, not texts.
func TestOrderOfPieces(t *testing.T) {
	x := New()
	for _, part := range []int{10, 2, 0, greatest, 9, 1, 100} {
		expectCode(t, x.Add(seg(0, 10, 0, part, 3)), api.OK)
		expectCode(t, x.Add(seg(4, 6, 1, part, 0)), api.OK)
	}
	var want []api.Piece
	for _, one := range []struct {
		s        api.Seg
		from, to int64
	}{{seg(0, 10, 0, 0, 3), 0, 4}, {seg(4, 6, 1, 0, 0), 4, 6}, {seg(0, 10, 0, 0, 3), 6, 10}} {
		for _, part := range []int{0, 1, 2, 9, 10, 100, greatest} {
			one.s.Part = part
			want = append(want, piece(one.s, one.from, one.to))
		}
	}
	expectLookup(t, x, span(0, 10), want...)
}
