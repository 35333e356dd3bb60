package timeline

import (
	"math"
	"testing"

	"gristmill/api"
)

const greatest = math.MaxInt

// wrongSegments are segments that may not be, each for one reason, and for several.
func wrongSegments() []api.Seg {
	return []api.Seg{
		seg(-1, 5, 0, 0, 1),
		seg(least, 5, 0, 0, 1),
		seg(-2, -1, 0, 0, 1),
		seg(-1, 0, 0, 0, 1),
		seg(5, 5, 0, 0, 1),
		seg(0, 0, 0, 0, 1),
		seg(most, most, 0, 0, 1),
		seg(6, 5, 0, 0, 1),
		seg(1, 0, 0, 0, 1),
		seg(1, -1, 0, 0, 1),
		seg(great, least, 0, 0, 1),
		seg(0, most+1, 0, 0, 1),
		seg(0, great, 0, 0, 1),
		seg(most, most+1, 0, 0, 1),
		seg(least, great, 0, 0, 1),
		seg(3, 6, -1, 0, 1),
		seg(3, 6, math.MinInt, 0, 1),
		seg(3, 6, 0, -1, 1),
		seg(3, 6, 0, math.MinInt, 1),
		seg(3, 6, 0, 0, -1),
		seg(3, 6, 0, 0, math.MinInt),
		seg(5, 5, -1, -1, -1),
	}
}

// TestEmpty: P15.1, in a new timeline nothing is there.
func TestEmpty(t *testing.T) {
	for _, x := range []*Timeline{New(), {}} {
		expectLookup(t, x, span(least, great))
		expectVisible(t, x)
		expectCovered(t, x)
		expectCode(t, x.Remove(whole(0, 1, 0)), api.ErrNone)
		expectCode(t, x.Add(whole(0, 1, 0)), api.OK)
		expectVisible(t, x, whole(0, 1, 0))
	}
}

// TestApart: P15.1, timelines know nothing of each other.
func TestApart(t *testing.T) {
	x, y := of(t, whole(0, 5, 0)), New()
	expectVisible(t, y)
	expectCode(t, y.Remove(whole(0, 5, 0)), api.ErrNone)
	expectCode(t, y.Add(seg(0, 5, 0, 0, 0)), api.OK)
	expectVisible(t, x, whole(0, 5, 0))
}

// TestWrongSegments: P15.1, ErrArg of Add and Remove, in a new timeline and in one with segments, which stays as it is.
func TestWrongSegments(t *testing.T) {
	for _, wrong := range wrongSegments() {
		x := New()
		expectCode(t, x.Add(wrong), api.ErrArg)
		expectCode(t, x.Remove(wrong), api.ErrArg)
		expectPlain(t, x, nil, 2)
		there := plain{whole(3, 6, 0), whole(0, 8, 0), half(3, 6, 1)}
		x = of(t, there...)
		expectCode(t, x.Add(wrong), api.ErrArg)
		expectCode(t, x.Remove(wrong), api.ErrArg)
		expectPlain(t, x, there, 8)
	}
}

// TestRightSegments: P15.1, the edges of what may be, added and removed.
func TestRightSegments(t *testing.T) {
	for _, right := range []api.Seg{
		seg(0, 1, 0, 0, 0),
		seg(0, most, 0, 0, 1),
		seg(most-1, most, 0, 0, 1),
		seg(0, 1, greatest, 0, 0),
		seg(0, 1, 0, greatest, 0),
		seg(0, most, greatest, greatest, 0),
	} {
		x := of(t, right)
		expectVisible(t, x, right)
		expectLookup(t, x, right.Span, api.Piece{Seg: right, Span: right.Span})
		expectCode(t, x.Remove(right), api.OK)
		expectPlain(t, x, nil, 2)
	}
	x := of(t, seg(0, 1, 0, greatest, greatest), seg(0, 1, 0, 0, greatest))
	expectVisible(t, x)
	expectCovered(t, x)
	expectCode(t, x.Remove(seg(0, 1, 0, greatest, greatest)), api.OK)
	expectCode(t, x.Remove(seg(0, 1, 0, 0, greatest)), api.OK)
	expectCode(t, x.Add(seg(0, 1, 0, 0, 1)), api.OK)
}

// TestFirstError: P15.1, of several errors the first one: ErrArg, ErrTwice, ErrForm; ErrArg ahead of ErrNone; nothing changes.
func TestFirstError(t *testing.T) {
	there := plain{seg(3, 6, 1, 0, 2), seg(3, 6, 1, 1, 2), seg(3, 6, 1, 7, 2), whole(0, 8, 0)}
	x := of(t, there...)
	for _, c := range []struct {
		s    api.Seg
		want api.Errno
	}{
		{seg(3, 6, 1, 0, -1), api.ErrArg}, // there, and with another Core
		{seg(3, 6, 1, 7, -1), api.ErrArg},
		{seg(3, 6, 1, 5, -1), api.ErrArg}, // with another Core
		{seg(3, 6, 1, -1, 3), api.ErrArg},
		{seg(3, 6, 1, 0, 2), api.ErrTwice},
		{seg(3, 6, 1, 7, 2), api.ErrTwice},
		{seg(3, 6, 1, 0, 3), api.ErrTwice}, // and with another Core
		{seg(3, 6, 1, 1, 0), api.ErrTwice},
		{seg(3, 6, 1, 7, 1), api.ErrTwice},
		{seg(3, 6, 1, 2, 3), api.ErrForm},
		{seg(3, 6, 1, 2, 0), api.ErrForm},
		{seg(3, 6, 1, 2, 1), api.ErrForm},
		{seg(3, 6, 1, 9, greatest), api.ErrForm},
	} {
		expectCode(t, x.Add(c.s), c.want)
		expectPlain(t, x, there, 8)
	}
	for _, s := range there {
		s.Core = -1
		expectCode(t, x.Remove(s), api.ErrArg)
	}
	expectPlain(t, x, there, 8)
}

// TestOtherCore: P15.1, sets of another From, To or Version have Cores of their own, and Parts of their own.
func TestOtherCore(t *testing.T) {
	there := plain{seg(3, 6, 1, 0, 2), seg(2, 6, 1, 0, 3), seg(3, 7, 1, 0, 0), seg(3, 6, 0, 0, 1), seg(3, 6, 2, 0, 4)}
	x := of(t, there...)
	expectPlain(t, x, there, 8)
	for _, s := range there {
		expectCode(t, x.Add(s), api.ErrTwice)
	}
}

// TestAgain: P15.1, behind a Remove a segment may come again; with another Core behind a Remove of all of its set, not of some.
func TestAgain(t *testing.T) {
	a, b := seg(3, 6, 1, 0, 2), seg(3, 6, 1, 1, 2)
	x := of(t, a, b)
	expectCode(t, x.Remove(a), api.OK)
	expectCode(t, x.Add(seg(3, 6, 1, 0, 1)), api.ErrForm)
	expectCode(t, x.Add(a), api.OK)
	expectCode(t, x.Add(a), api.ErrTwice)
	expectVisible(t, x, a, b)
	expectCode(t, x.Remove(b), api.OK)
	expectCode(t, x.Remove(a), api.OK)
	other := seg(3, 6, 1, 0, 1)
	expectCode(t, x.Add(other), api.OK)
	expectVisible(t, x, other)
	expectCode(t, x.Add(b), api.ErrForm)
	expectCode(t, x.Remove(a), api.ErrNone)
	expectCode(t, x.Remove(other), api.OK)
	expectCode(t, x.Add(b), api.OK)
	expectCode(t, x.Add(a), api.OK)
	expectVisible(t, x, a, b)
}

// TestRemoveNone: P15.1, ErrNone unless a segment is there that is the same in all; nothing changes.
func TestRemoveNone(t *testing.T) {
	there := plain{seg(3, 6, 1, 0, 2), seg(3, 6, 1, 1, 2), seg(3, 6, 1, 3, 2), whole(0, 8, 0)}
	x := of(t, there...)
	for _, none := range []api.Seg{
		seg(3, 6, 1, 0, 1), seg(3, 6, 1, 0, 0), seg(3, 6, 1, 0, 3), seg(3, 6, 1, 3, 3), // there but for the Core
		seg(3, 6, 1, 2, 2), seg(3, 6, 1, 4, 2), seg(3, 6, 1, greatest, 2),
		seg(3, 6, 0, 0, 2), seg(3, 6, 2, 0, 2),
		seg(2, 6, 1, 0, 2), seg(3, 7, 1, 0, 2), seg(0, 7, 0, 0, 1), seg(1, 8, 0, 0, 1),
	} {
		expectCode(t, x.Remove(none), api.ErrNone)
		expectPlain(t, x, there, 8)
	}
	for len(there) > 0 {
		s := there[0]
		there = there[1:]
		expectCode(t, x.Remove(s), api.OK)
		expectPlain(t, x, there, 8)
		expectCode(t, x.Remove(s), api.ErrNone)
		expectPlain(t, x, there, 8)
	}
}

// TestNil: P15.1, of nil: ErrArg, nothing.
func TestNil(t *testing.T) {
	var x *Timeline
	for _, s := range append(wrongSegments(), whole(0, 5, 0), seg(0, 1, 0, 0, 0)) {
		expectCode(t, x.Add(s), api.ErrArg)
		expectCode(t, x.Remove(s), api.ErrArg)
	}
	for _, s := range []api.Span{span(0, 5), span(5, 0), span(least, great), {}} {
		expectLookup(t, x, s)
	}
	expectVisible(t, x)
	expectCovered(t, x)
}
