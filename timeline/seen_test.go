package timeline

import (
	"slices"
	"testing"

	"gristmill/api"
)

// TestStand: P15.3, Visible and Covered tell segments as they stand, whatever they came in: From, To, Version, Part, numbers each.
func TestStand(t *testing.T) {
	visible := []api.Seg{
		seg(1, 2, 0, 0, 0), seg(1, 2, 0, 2, 0), seg(1, 2, 0, 10, 0),
		seg(1, 4, 0, 0, 0), seg(1, 4, 0, 1, 0),
		seg(2, 3, 0, 3, 0),
		seg(5, 9, 0, 0, 0),
		seg(5, 20, 0, 0, 0),
		seg(10, 11, 9, 0, 0),
		seg(12, 13, 3, 0, 0),
		seg(100, 101, 1, 0, 0),
	}
	covered := []api.Seg{
		seg(50, 52, 0, 0, 1), seg(50, 52, 2, 0, 1), seg(50, 52, 10, 0, 1), seg(50, 52, 10, 1, 1), seg(50, 52, 10, 2, 1), seg(50, 52, 10, 10, 1),
		seg(50, 53, 0, 0, 1), seg(50, 60, 1, 0, 1),
		seg(51, 52, 4, 0, 3), seg(51, 52, 4, 1, 3),
	}
	over := seg(50, 60, 11, 0, 1)
	numbers := stream(3)
	all := slices.Concat(visible, covered, []api.Seg{over})
	for range 40 {
		x := of(t, shuffled(&numbers, all)...)
		expectVisible(t, x, stood(append(slices.Clone(visible), over))...)
		expectCovered(t, x, covered...)
	}
	if !slices.Equal(stood(visible), visible) || !slices.Equal(stood(covered), covered) {
		t.Fatal("the test's own order")
	}
}

// TestTwoStretches: P15.3, a set that counts at several stretches is told once.
func TestTwoStretches(t *testing.T) {
	a, b, c := whole(0, 20, 0), whole(3, 6, 1), whole(9, 12, 1)
	x := of(t, a, b, c)
	expectLookup(t, x, span(0, 20), piece(a, 0, 3), piece(b, 3, 6), piece(a, 6, 9), piece(c, 9, 12), piece(a, 12, 20))
	expectVisible(t, x, a, b, c)
	expectCovered(t, x)
}

// TestHidden: P15.3, sets that are hidden by one other, by several together, and but for a moment.
func TestHidden(t *testing.T) {
	for _, c := range []struct {
		s       api.Seg
		others  []api.Seg
		covered bool
	}{
		{whole(3, 6, 0), []api.Seg{whole(3, 6, 1)}, true},
		{whole(3, 6, 0), []api.Seg{whole(0, 9, 1)}, true},
		{whole(3, 6, 0), []api.Seg{whole(3, 9, 1)}, true},
		{whole(3, 6, 0), []api.Seg{whole(0, 6, 1)}, true},
		{whole(3, 6, 0), []api.Seg{whole(0, 4, 1), whole(4, 9, 2)}, true},
		{whole(3, 6, 0), []api.Seg{whole(3, 4, 1), whole(4, 5, 1), whole(5, 6, 1)}, true},
		{whole(3, 6, 0), []api.Seg{whole(0, 5, 1), whole(4, 9, 1)}, true},
		{whole(3, 6, 0), []api.Seg{whole(0, 5, 2), whole(4, 9, 1)}, true},
		// Of one Version: those of a greater From, and one of the same From and a less To.
		{whole(0, 9, 0), []api.Seg{whole(0, 4, 0), whole(4, 9, 0)}, true},
		{whole(0, 9, 0), []api.Seg{whole(0, 4, 0), whole(3, 9, 0)}, true},
		{whole(0, 9, 0), []api.Seg{whole(0, 4, 0), whole(2, 20, 0)}, true},
		{whole(0, 9, 0), []api.Seg{whole(0, 4, 0), whole(5, 9, 0)}, false},
		{whole(0, 9, 0), []api.Seg{whole(1, 9, 0)}, false},
		{whole(0, 9, 0), []api.Seg{whole(0, 8, 0)}, false},
		// A moment is free: at its beginning, within, at its end.
		{whole(3, 6, 0), []api.Seg{whole(4, 9, 1)}, false},
		{whole(3, 6, 0), []api.Seg{whole(0, 5, 1)}, false},
		{whole(3, 6, 0), []api.Seg{whole(0, 4, 1), whole(5, 9, 1)}, false},
		{whole(3, 6, 0), []api.Seg{whole(0, 3, 1), whole(6, 9, 1)}, false},
		{whole(3, 6, 0), nil, false},
		// Others that go behind it, or aren't complete, hide nothing.
		{whole(3, 6, 1), []api.Seg{whole(0, 9, 0)}, false},
		{whole(3, 6, 1), []api.Seg{whole(3, 6, 0)}, false},
		{whole(3, 6, 1), []api.Seg{whole(0, 9, 1)}, false},
		{whole(3, 6, 1), []api.Seg{whole(3, 9, 1)}, false},
		{whole(3, 6, 1), []api.Seg{half(0, 9, 2)}, false},
		{whole(3, 6, 0), []api.Seg{whole(0, 4, 1), half(4, 9, 2)}, false},
	} {
		x := of(t, append([]api.Seg{c.s}, c.others...)...)
		if got := slices.Contains(x.Covered(), c.s); got != c.covered {
			t.Error("covered", c, got)
		}
		if got := slices.Contains(x.Visible(), c.s); got == c.covered {
			t.Error("visible", c, got)
		}
	}
}

// TestIncomplete: P15.3, an incomplete set is never visible, and covered where others count ahead of it at each of its times.
func TestIncomplete(t *testing.T) {
	for _, c := range []struct {
		s       api.Seg
		others  []api.Seg
		covered bool
	}{
		{half(3, 6, 0), nil, false},
		{half(3, 6, 0), []api.Seg{whole(4, 9, 1)}, false}, // nothing over a part of it
		{half(3, 6, 0), []api.Seg{whole(0, 5, 1)}, false},
		{half(3, 6, 0), []api.Seg{whole(0, 4, 1), whole(5, 9, 1)}, false},
		{half(3, 6, 1), []api.Seg{whole(0, 9, 0)}, false}, // what counts there goes behind it
		{half(3, 6, 1), []api.Seg{whole(3, 6, 0)}, false},
		{half(3, 6, 1), []api.Seg{whole(2, 6, 1)}, false},
		{half(3, 6, 1), []api.Seg{whole(3, 7, 1)}, false},
		{half(3, 6, 1), []api.Seg{whole(0, 9, 0), whole(3, 5, 2)}, false},
		{half(3, 6, 1), []api.Seg{whole(0, 9, 0), whole(4, 6, 2)}, false},
		{half(3, 6, 1), []api.Seg{whole(0, 9, 0), whole(3, 4, 2), whole(5, 6, 2)}, false},
		{half(3, 6, 0), []api.Seg{half(3, 6, 1)}, false},
		{half(3, 6, 0), []api.Seg{whole(3, 6, 1)}, true},
		{half(3, 6, 0), []api.Seg{whole(0, 9, 1)}, true},
		{half(3, 6, 0), []api.Seg{whole(0, 4, 1), whole(4, 9, 2)}, true},
		{half(3, 6, 0), []api.Seg{whole(3, 5, 0), whole(4, 6, 0)}, true},
		{half(3, 6, 0), []api.Seg{whole(3, 5, 0), whole(5, 6, 1)}, true},
	} {
		x := of(t, append([]api.Seg{c.s}, c.others...)...)
		if got := slices.Contains(x.Covered(), c.s); got != c.covered {
			t.Error("covered", c, got)
		}
		if slices.Contains(x.Visible(), c.s) {
			t.Error("visible", c)
		}
	}
}

// TestAllParts: P15.3, all segments of a set are told, those on top too, of a complete one and of an incomplete one.
func TestAllParts(t *testing.T) {
	old := []api.Seg{seg(3, 6, 0, 1, 2), seg(3, 6, 0, 4, 2), seg(3, 6, 0, 9, 2)}
	full := []api.Seg{seg(4, 5, 0, 0, 1), seg(4, 5, 0, 3, 1)}
	over := []api.Seg{seg(0, 9, 1, 0, 2), seg(0, 9, 1, 1, 2), seg(0, 9, 1, 8, 2)}
	x := of(t, slices.Concat(old, full, over)...)
	expectVisible(t, x, over...)
	expectCovered(t, x, append(old, full...)...)
	expectCode(t, x.Remove(over[1]), api.OK)
	expectVisible(t, x, full...)
	expectCovered(t, x)
}

// TestNewMemory: P15.2 and P15.3, whoever changes what is answered changes nothing else.
func TestNewMemory(t *testing.T) {
	there := plain{seg(0, 8, 0, 0, 2), seg(0, 8, 0, 1, 2), whole(3, 5, 1), whole(4, 5, 0), half(3, 4, 0)}
	x := of(t, there...)
	spoilt := seg(99, 100, 9, 9, 9)
	for range 2 {
		first, second := x.Lookup(span(0, 8)), x.Lookup(span(0, 8))
		for at := range first {
			first[at] = api.Piece{Seg: spoilt}
		}
		if !slices.Equal(second, there.lookup(span(0, 8), 8)) {
			t.Fatal("two answers of Lookup share memory")
		}
		for _, ask := range []func() []api.Seg{x.Visible, x.Covered} {
			one, other := ask(), ask()
			kept := slices.Clone(other)
			for at := range one {
				one[at] = spoilt
			}
			_ = append(one[:0], spoilt, spoilt)
			if !slices.Equal(other, kept) || len(kept) == 0 {
				t.Fatal("two answers share memory")
			}
		}
		expectPlain(t, x, there, 8)
	}
	// What was answered stays as it is, whatever comes and goes.
	pieces, visible := x.Lookup(span(0, 8)), x.Visible()
	keptPieces, keptVisible := slices.Clone(pieces), slices.Clone(visible)
	expectCode(t, x.Remove(there[0]), api.OK)
	expectCode(t, x.Add(whole(0, 8, 7)), api.OK)
	if !slices.Equal(pieces, keptPieces) || !slices.Equal(visible, keptVisible) {
		t.Fatal("an answer changed")
	}
}
