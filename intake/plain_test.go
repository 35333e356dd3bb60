package intake

import (
	"math"
	"slices"
	"testing"

	"gristmill/api"
)

const (
	least   = math.MinInt64
	great   = math.MaxInt64
	most    = 1 << 40 // the last moment's end
	highest = math.MaxUint64
)

// stream tells numbers that look thrown, the same ones at each run.
type stream uint64

func (s *stream) below(n int) int {
	*s = *s*6364136223846793005 + 1442695040888963407
	return int(uint64(*s) >> 31 % uint64(n))
}

// timed is a fact without dimensions and measures.
func timed(time int64) api.Fact { return api.Fact{Time: time} }

func timedAll(times ...int64) []api.Fact {
	var facts []api.Fact
	for _, time := range times {
		facts = append(facts, timed(time))
	}
	return facts
}

func chunk(from, to int64, times ...int64) Chunk {
	return Chunk{Span: api.Span{From: from, To: to}, Facts: timedAll(times...)}
}

func batch(number int, from, to uint64, chunks ...Chunk) Batch {
	return Batch{Number: number, From: from, To: to, Chunks: chunks}
}

// begun is an intake of facts without dimensions and measures.
func begun(t *testing.T, length int64, next uint64) *Intake {
	t.Helper()
	x, code := New(api.Schema{}, length, next)
	if code != api.OK || x == nil {
		t.Fatal("no intake", length, next, code)
	}
	return x
}

// takeAll has facts of these times taken, one by one.
func takeAll(t *testing.T, x *Intake, times ...int64) {
	t.Helper()
	for _, time := range times {
		expectCode(t, x.Take(x.Next(), timed(time)), api.OK)
	}
}

func expectCode(t *testing.T, got, want api.Errno) {
	t.Helper()
	if got != want {
		t.Fatalf("%d, not %d", got, want)
	}
}

func expectNext(t *testing.T, x *Intake, want uint64) {
	t.Helper()
	if got := x.Next(); got != want {
		t.Fatalf("waits for %d, not %d", got, want)
	}
}

func expectSeal(t *testing.T, x *Intake, want Batch) {
	t.Helper()
	got, code := x.Seal()
	expectCode(t, code, api.OK)
	expectBatches(t, []Batch{got}, want)
}

func expectNoSeal(t *testing.T, x *Intake, want api.Errno) {
	t.Helper()
	got, code := x.Seal()
	if code != want || got.Number != 0 || got.From != 0 || got.To != 0 || len(got.Chunks) != 0 {
		t.Fatalf("%+v, %d, not %d", got, code, want)
	}
}

func expectBatches(t *testing.T, got []Batch, want ...Batch) {
	t.Helper()
	if !slices.EqualFunc(got, want, sameBatch) {
		t.Fatalf("got %+v, want %+v", got, want)
	}
}

func expectBehind(t *testing.T, x *Intake, offset, taken uint64, want ...api.Fact) {
	t.Helper()
	facts, to, code := x.Behind(offset)
	if code != api.OK || to != taken || !slices.EqualFunc(facts, want, alike) {
		t.Fatalf("behind %d: %+v, %d, %d, not %+v, %d", offset, facts, to, code, want, taken)
	}
}

func expectNotBehind(t *testing.T, x *Intake, offset uint64, want api.Errno) {
	t.Helper()
	if facts, to, code := x.Behind(offset); code != want || to != 0 || len(facts) != 0 {
		t.Fatalf("behind %d: %+v, %d, %d, not %d", offset, facts, to, code, want)
	}
}

func alike(a, b api.Fact) bool {
	return a.Time == b.Time && slices.Equal(a.Dims, b.Dims) && slices.Equal(a.Meas, b.Meas)
}

func sameChunk(a, b Chunk) bool {
	return a.Span == b.Span && slices.EqualFunc(a.Facts, b.Facts, alike)
}

func sameBatch(a, b Batch) bool {
	return a.Number == b.Number && a.From == b.From && a.To == b.To && slices.EqualFunc(a.Chunks, b.Chunks, sameChunk)
}

// plain is an intake as the document's words say it: all facts since its beginning, and where batches ended.
type plain struct {
	schema api.Schema
	length int64
	start  uint64     // taken, when it began
	facts  []api.Fact // those of the offsets from start + 1 on
	ends   []uint64   // of each batch: its To
	gone   int        // how many batches were released
}

func (p *plain) taken() uint64 { return p.start + uint64(len(p.facts)) }

// end is where a batch ends; that of number 0 is the beginning.
func (p *plain) end(number int) uint64 {
	if number == 0 {
		return p.start
	}
	return p.ends[number-1]
}

func (p *plain) fine(f api.Fact) bool {
	long := slices.ContainsFunc(f.Dims, func(text string) bool { return len(text) > 64 })
	return f.Time >= 0 && f.Time < most && len(f.Dims) == p.schema.Dims && len(f.Meas) == p.schema.Meas && !long
}

func (p *plain) take(offset uint64, f api.Fact) api.Errno {
	switch {
	case offset <= p.taken():
		return api.ErrOld
	case offset-p.taken() > 1:
		return api.ErrGap
	case offset == highest:
		return api.ErrLimit
	case !p.fine(f):
		return api.ErrFact
	}
	p.facts = append(p.facts, f)
	return api.OK
}

// of are the facts of the offsets from + 1 to to.
func (p *plain) of(from, to uint64) []api.Fact {
	return p.facts[from-p.start : to-p.start]
}

func (p *plain) batch(number int) Batch {
	b := Batch{Number: number, From: p.end(number - 1), To: p.end(number)}
	for _, f := range p.of(b.From, b.To) {
		b.Chunks = p.put(b.Chunks, f)
	}
	return b
}

// put puts a fact into the chunk that has its time, behind those that are there, or into a new one at its place.
func (p *plain) put(chunks []Chunk, f api.Fact) []Chunk {
	at := 0
	for at < len(chunks) && chunks[at].Span.To <= f.Time {
		at++
	}
	if at == len(chunks) || f.Time < chunks[at].Span.From {
		span := api.Span{From: f.Time - f.Time%p.length}
		if span.To = span.From + p.length; span.To > most {
			span.To = most
		}
		chunks = slices.Insert(chunks, at, Chunk{Span: span})
	}
	chunks[at].Facts = append(chunks[at].Facts, f)
	return chunks
}

func (p *plain) seal() (Batch, api.Errno) {
	if p.taken() == p.end(len(p.ends)) {
		return Batch{}, api.ErrNone
	}
	p.ends = append(p.ends, p.taken())
	return p.batch(len(p.ends)), api.OK
}

func (p *plain) batches() []Batch {
	var out []Batch
	for at := range p.ends[p.gone:] {
		out = append(out, p.batch(p.gone+at+1))
	}
	return out
}

func (p *plain) behind(offset uint64) ([]api.Fact, uint64, api.Errno) {
	switch {
	case offset < p.end(p.gone):
		return nil, 0, api.ErrGone
	case offset > p.taken():
		return nil, 0, api.ErrGap
	}
	return p.of(offset, p.taken()), p.taken(), api.OK
}

func (p *plain) release(number int) api.Errno {
	switch {
	case number <= p.gone || number > len(p.ends):
		return api.ErrNone
	case number > p.gone+1:
		return api.ErrBusy
	}
	p.gone++
	return api.OK
}

// expectPlain asks all that can be asked without a change.
func expectPlain(t *testing.T, x *Intake, p *plain) {
	t.Helper()
	expectNext(t, x, p.taken()+1)
	expectBatches(t, x.Batches(), p.batches()...)
	offsets := []uint64{0, 1, p.start - 1, highest - 1, highest}
	for n := range len(p.facts) + 2 {
		offsets = append(offsets, p.start+uint64(n))
	}
	for _, offset := range offsets {
		facts, taken, code := p.behind(offset)
		if code != api.OK {
			expectNotBehind(t, x, offset, code)
			continue
		}
		expectBehind(t, x, offset, taken, facts...)
	}
}
