package timeline

import (
	"slices"
	"testing"

	"gristmill/api"
)

// thrownRow is segments that can all be there at once.
func thrownRow(numbers *stream, last, versions int) plain {
	p := plain{}
	for range 2 + numbers.below(24) {
		p.add(thrown(numbers, last, versions))
	}
	return p
}

// permuted calls with each order of the segments.
func permuted(segments []api.Seg, ahead []api.Seg, call func([]api.Seg)) {
	if len(segments) == 0 {
		call(ahead)
	}
	for at := range segments {
		rest := slices.Delete(slices.Clone(segments), at, at+1)
		permuted(rest, append(slices.Clone(ahead), segments[at]), call)
	}
}

// TestOrderOfAdds: P15.4, the order in which segments came changes nothing.
func TestOrderOfAdds(t *testing.T) {
	few := plain{seg(3, 6, 1, 0, 2), seg(3, 6, 1, 1, 2), seg(3, 6, 1, 5, 2), whole(0, 8, 0), whole(4, 5, 0), half(4, 8, 1)}
	permuted(few, nil, func(order []api.Seg) {
		x := of(t, order...)
		expectLookup(t, x, span(0, 8), few.lookup(span(0, 8), 8)...)
		expectVisible(t, x, few.visible()...)
		expectCovered(t, x, few.covered()...)
	})
	numbers := stream(21)
	for range 60 {
		row := thrownRow(&numbers, 7, 3)
		expectPlain(t, of(t, shuffled(&numbers, row)...), row, 7)
	}
}

// TestThereAndGone: P15.4, what was added and removed again changes nothing, whenever it was.
func TestThereAndGone(t *testing.T) {
	numbers := stream(22)
	for range 60 {
		row := thrownRow(&numbers, 7, 3)
		x, p := New(), plain{}
		var guests []api.Seg
		for _, s := range row {
			for range numbers.below(4) {
				guest := thrown(&numbers, 7, 4)
				// A guest may not stand in the way of one that stays.
				if all := slices.Concat(p, row); all.add(guest) == api.OK && p.add(guest) == api.OK {
					expectCode(t, x.Add(guest), api.OK)
					guests = append(guests, guest)
				}
			}
			if p.add(s) == api.OK {
				expectCode(t, x.Add(s), api.OK)
			}
		}
		for _, guest := range shuffled(&numbers, guests) {
			expectCode(t, x.Remove(guest), api.OK)
		}
		expectPlain(t, x, row, 7)
	}
}

// TestOneSetATime: P15.4, no time is told of two sets.
func TestOneSetATime(t *testing.T) {
	numbers := stream(23)
	for range 200 {
		x := of(t, thrownRow(&numbers, 12, 3)...)
		pieces := x.Lookup(span(least, great))
		for at, a := range pieces {
			if a.Span.From >= a.Span.To || a.Span.From < a.Seg.Span.From || a.Span.To > a.Seg.Span.To {
				t.Fatal("a piece beyond its segment", a)
			}
			for _, b := range pieces[:at] {
				apart := b.Span.To <= a.Span.From
				if !apart && (!sameSet(a.Seg, b.Seg) || a.Span != b.Span || b.Seg.Part >= a.Seg.Part) {
					t.Fatal("two sets of one time", b, a)
				}
			}
		}
	}
}

// TestCoveredMayGo: P15.4, what is covered may be removed, all of it and one by one: all Lookups stay.
func TestCoveredMayGo(t *testing.T) {
	numbers := stream(24)
	gone := 0
	for range 120 {
		row := thrownRow(&numbers, 8, 4)
		for _, oneByOne := range []bool{false, true} {
			x := of(t, row...)
			visible := x.Visible()
			for covered := x.Covered(); len(covered) > 0; covered = x.Covered() {
				out := shuffled(&numbers, covered)
				if oneByOne {
					out = out[:1]
				}
				for _, s := range out {
					expectCode(t, x.Remove(s), api.OK)
					gone++
					expectLookups(t, x, row, 8)
					expectVisible(t, x, visible...)
				}
			}
		}
	}
	if gone < 500 {
		t.Fatal("too few were covered to tell anything", gone)
	}
}

// expectLookups holds all Lookups against those of a row of segments.
func expectLookups(t *testing.T, x *Timeline, p plain, last int64) {
	t.Helper()
	for from := int64(-1); from <= last; from++ {
		for to := from; to <= last+1; to++ {
			expectLookup(t, x, span(from, to), p.lookup(span(from, to), last)...)
		}
	}
}

// TestMany: P15.2 and P15.3, more sets than a log may hold, side by side and over one another.
func TestMany(t *testing.T) {
	const sets = 20000
	x := New()
	for at := range int64(sets) {
		expectCode(t, x.Add(whole(10*at, 10*at+10, sets-int(at))), api.OK)
		expectCode(t, x.Add(whole(10*at, 10*at+5, 2*sets)), api.OK)
	}
	pieces := x.Lookup(span(0, most))
	if len(pieces) != 2*sets || len(x.Visible()) != 2*sets || len(x.Covered()) != 0 {
		t.Fatal(len(pieces))
	}
	for at, p := range pieces {
		if p.Span != span(5*int64(at), 5*int64(at)+5) || p.Seg.Span.From != int64(at)/2*10 || (p.Seg.Version == 2*sets) != (at%2 == 0) {
			t.Fatal(at, p)
		}
	}
	over := whole(0, most, 3*sets)
	expectCode(t, x.Add(over), api.OK)
	expectLookup(t, x, span(7, 12), piece(over, 7, 12))
	expectVisible(t, x, over)
	if len(x.Covered()) != 2*sets {
		t.Fatal(len(x.Covered()))
	}
}
