package intake

import (
	"cmp"
	"maps"
	"slices"

	"gristmill/api"
)

// kept is what is kept of a batch: its facts by rising offsets, as they are asked for. Its Chunks are none till
// they are told: with them each fact would be here twice.
type kept struct {
	Batch
	facts []api.Fact
}

// following is the batch behind another one, still without facts.
func following(b Batch) kept {
	return kept{Batch: Batch{Number: b.Number + 1, From: b.To, To: b.To}}
}

// told is the batch with its chunks, in new memory.
func (k kept) told(length int64) Batch {
	b := k.Batch
	b.Chunks = chunksOf(k.facts, length)
	return b
}

// behind are its facts of the offsets above one, in new memory.
func (k kept) behind(offset uint64) []api.Fact {
	ahead := min(max(offset, k.From), k.To) - k.From
	var facts []api.Fact
	for _, f := range k.facts[ahead:] {
		facts = append(facts, copied(f))
	}
	return facts
}

// chunksOf are facts by the spans of their times, in new memory.
func chunksOf(facts []api.Fact, length int64) []Chunk {
	within := map[api.Span][]api.Fact{}
	for _, f := range facts {
		span := spanOf(f.Time, length)
		within[span] = append(within[span], copied(f))
	}
	var chunks []Chunk
	for _, span := range slices.SortedFunc(maps.Keys(within), byTime) {
		chunks = append(chunks, Chunk{Span: span, Facts: within[span]})
	}
	return chunks
}

// spanOf is a time's span.
func spanOf(time, length int64) api.Span {
	from := time / length * length
	return api.Span{From: from, To: min(from+length, api.MaxTime)}
}

// byTime is the order of spans of one length, of which no two begin at the same time.
func byTime(a, b api.Span) int { return cmp.Compare(a.From, b.From) }

func copied(f api.Fact) api.Fact {
	return api.Fact{Time: f.Time, Dims: slices.Clone(f.Dims), Meas: slices.Clone(f.Meas)}
}
