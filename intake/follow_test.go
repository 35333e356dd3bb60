package intake

import (
	"slices"
	"strings"
	"testing"

	"gristmill/api"
)

// thrownFact is of a schema of 2 dimensions and 1 measure, and mostly one that may be.
func thrownFact(s *stream) api.Fact {
	texts := []string{"", "a", "b", "\x00", "\xff", "ä", strings.Repeat("z", 64)}
	times := []int64{0, 1, most - 1, most - 2, most / 2, int64(s.below(50)), int64(s.below(50)), int64(s.below(50))}
	f := api.Fact{
		Time: times[s.below(len(times))],
		Dims: []string{texts[s.below(len(texts))], texts[s.below(len(texts))]},
		Meas: []int64{int64(s.below(9)) - 4},
	}
	switch s.below(24) {
	case 0:
		f.Time = -1 - f.Time
	case 1:
		f.Time += most
	case 2:
		f.Dims = f.Dims[:1]
	case 3:
		f.Meas = append(f.Meas, 1)
	}
	return f
}

// thrownOffset is mostly the next one; else one that was taken, one that is early, or any.
func thrownOffset(s *stream, next uint64) uint64 {
	switch s.below(10) {
	case 0:
		return next - 1 - uint64(s.below(4))
	case 1:
		return next + 1 + uint64(s.below(4))
	case 2:
		return []uint64{0, 1, highest, highest - 1}[s.below(4)]
	}
	return next
}

// TestThrown: P17.1 to P17.5, calls one behind the other against what the document's words say.
func TestThrown(t *testing.T) {
	lengths := []int64{1, 3, 10, 7, most - 1, most/2 + 1, most}
	starts := []uint64{0, 1, 12, 1 << 63, highest - 15}
	s := api.Schema{Dims: 2, Meas: 1}
	numbers := stream(17)
	seen := map[api.Errno]int{}
	for range 300 {
		p := &plain{schema: s, length: lengths[numbers.below(len(lengths))], start: starts[numbers.below(len(starts))]}
		x, code := New(s, p.length, p.start+1)
		expectCode(t, code, api.OK)
		for range 60 {
			seen[step(t, &numbers, x, p)]++
			expectPlain(t, x, p)
		}
	}
	for _, code := range []api.Errno{api.OK, api.ErrOld, api.ErrGap, api.ErrLimit, api.ErrFact, api.ErrNone, api.ErrBusy} {
		if seen[code] < 50 {
			t.Fatal("too few to tell anything", code, seen[code])
		}
	}
}

// step does one call that changes something, or is refused; it is what was answered.
func step(t *testing.T, numbers *stream, x *Intake, p *plain) api.Errno {
	t.Helper()
	switch numbers.below(10) {
	case 0:
		got, code := x.Seal()
		want, wantCode := p.seal()
		expectCode(t, code, wantCode)
		expectBatches(t, []Batch{got}, want)
		return code
	case 1:
		number := p.gone + numbers.below(5) - 1
		code := x.Release(number)
		expectCode(t, code, p.release(number))
		return code
	}
	offset, f := thrownOffset(numbers, p.taken()+1), thrownFact(numbers)
	code := x.Take(offset, f)
	expectCode(t, code, p.take(offset, f))
	return code
}

// TestSentAnyhow: P17.5, whatever is sent again, early, or late: each fact is there once, in order, in one chunk whose span has its time.
func TestSentAnyhow(t *testing.T) {
	numbers := stream(18)
	const count = 60
	for range 60 {
		client := []api.Fact{}
		for n := range count {
			// Its time and its text tell which one it is.
			client = append(client, api.Fact{Time: int64(numbers.below(40)), Dims: []string{string(rune('0' + n))}})
		}
		x, code := New(api.Schema{Dims: 1}, 7, 1)
		expectCode(t, code, api.OK)
		var batches []Batch
		for x.Next() <= count {
			offset := uint64(1 + numbers.below(count))
			if numbers.below(2) == 0 {
				offset = x.Next()
			}
			x.Take(offset, client[offset-1])
			if numbers.below(8) == 0 || x.Next() > count {
				if b, code := x.Seal(); code == api.OK {
					batches = append(batches, b)
				}
			}
		}
		expectBehind(t, x, 0, count, client...)
		expectBatches(t, x.Batches(), batches...)
		expectOnce(t, batches, client)
	}
}

// expectOnce: each fact is in one chunk of one batch, and batches follow one another.
func expectOnce(t *testing.T, batches []Batch, client []api.Fact) {
	t.Helper()
	at := uint64(0)
	for n, b := range batches {
		if b.Number != n+1 || b.From != at || b.To <= at {
			t.Fatal("doesn't follow", b, at)
		}
		at = b.To
		left := slices.Clone(client[b.From:b.To])
		for n, c := range b.Chunks {
			if len(c.Facts) == 0 || n > 0 && b.Chunks[n-1].Span.To > c.Span.From {
				t.Fatal("no such chunk", b.Chunks)
			}
			for _, f := range c.Facts {
				place := slices.IndexFunc(left, func(g api.Fact) bool { return alike(f, g) })
				if place < 0 || f.Time < c.Span.From || f.Time >= c.Span.To {
					t.Fatal("not one of its facts, or not there", f, c.Span)
				}
				left = slices.Delete(left, place, place+1)
			}
		}
		if len(left) != 0 {
			t.Fatal("left out", left)
		}
	}
	if at != uint64(len(client)) {
		t.Fatal("not all", at)
	}
}

// TestGoesOn: P17.5, one that begins where another one is goes on as that one does, but for the numbers.
func TestGoesOn(t *testing.T) {
	s := api.Schema{Dims: 2, Meas: 1}
	numbers := stream(19)
	for range 100 {
		x, _ := New(s, 10, 1+uint64(numbers.below(5)))
		p := &plain{schema: s, length: 10, start: x.Next() - 1}
		for range 20 {
			step(t, &numbers, x, p)
		}
		x.Seal()
		for _, b := range x.Batches() {
			expectCode(t, x.Release(b.Number), api.OK)
		}
		y, code := New(s, 10, x.Next())
		expectCode(t, code, api.OK)
		expectTogether(t, &numbers, x, y)
	}
}

// expectTogether has two intakes go on side by side.
func expectTogether(t *testing.T, numbers *stream, x, y *Intake) {
	t.Helper()
	released := x.Next() - 1
	for range 30 {
		offset, f := thrownOffset(numbers, x.Next()), thrownFact(numbers)
		expectCode(t, y.Take(offset, f), x.Take(offset, f))
		expectNext(t, y, x.Next())
		if numbers.below(6) == 0 {
			a, code := x.Seal()
			b, other := y.Seal()
			b.Number = a.Number
			expectCode(t, other, code)
			expectBatches(t, []Batch{b}, a)
		}
		for at := released; at < x.Next(); at++ {
			facts, taken, code := x.Behind(at)
			expectCode(t, code, api.OK)
			expectBehind(t, y, at, taken, facts...)
		}
		for _, none := range []uint64{released - 1, x.Next(), highest} {
			_, _, code := x.Behind(none)
			expectNotBehind(t, y, none, code)
		}
	}
}

// TestMany: P17.2 to P17.4, many batches, sealed one by one and released in order.
func TestMany(t *testing.T) {
	const many = 20000
	x := begun(t, 10, 1)
	for n := range many {
		takeAll(t, x, int64(n))
		if b, code := x.Seal(); code != api.OK || b.Number != n+1 {
			t.Fatal(b, code)
		}
	}
	for n := range many {
		expectCode(t, x.Release(n+1), api.OK)
		expectCode(t, x.Release(n+1), api.ErrNone)
	}
	expectBatches(t, x.Batches())
	expectBehind(t, x, many, many)
	expectNotBehind(t, x, many-1, api.ErrGone)
}
