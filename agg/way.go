package agg

import (
	"slices"

	"gristmill/api"
)

// way is what aggregators of one kind do.
type way struct {
	fits  func(s api.Schema, col int) bool
	has   func(col int, f api.Fact, n uint64) api.Partial // of one fact, n times
	join  func(p, q api.Partial) api.Partial              // of both, but for N; neither is of no facts
	value func(p api.Partial) int64
	may   func(p api.Partial) bool
}

// ways are the ways by kind. The one at 0 is that of all kinds that are none, so that none is without functions.
func ways() [api.AggDistinct + 1]way {
	return [api.AggDistinct + 1]way{
		0:               {fits: never, has: countHas, join: countJoin, value: number, may: mayCount},
		api.AggCount:    {fits: always, has: countHas, join: countJoin, value: count, may: mayCount},
		api.AggSum:      {fits: isMeasure, has: sumHas, join: sumJoin, value: number, may: mayNumber},
		api.AggMin:      {fits: isMeasure, has: measureHas, join: minJoin, value: number, may: mayNumber},
		api.AggMax:      {fits: isMeasure, has: measureHas, join: maxJoin, value: number, may: mayNumber},
		api.AggDistinct: {fits: isDimension, has: textHas, join: textsJoin, value: howMany, may: mayTexts},
	}
}

func wayOf(a api.Agg) way {
	table := ways()
	if !within(a.Kind, len(table)) {
		return table[0]
	}
	return table[a.Kind]
}

func never(s api.Schema, col int) bool { return false }

func always(s api.Schema, col int) bool { return true }

func isMeasure(s api.Schema, col int) bool { return within(col, s.Meas) }

func isDimension(s api.Schema, col int) bool { return within(col, s.Dims) }

func countHas(col int, f api.Fact, n uint64) api.Partial { return api.Partial{N: n} }

func sumHas(col int, f api.Fact, n uint64) api.Partial {
	return api.Partial{N: n, V: int64(uint64(at(f.Meas, col)) * n)}
}

func measureHas(col int, f api.Fact, n uint64) api.Partial {
	return api.Partial{N: n, V: at(f.Meas, col)}
}

func textHas(col int, f api.Fact, n uint64) api.Partial {
	return api.Partial{N: n, Texts: []string{at(f.Dims, col)}}
}

func countJoin(p, q api.Partial) api.Partial { return api.Partial{} }

func sumJoin(p, q api.Partial) api.Partial { return api.Partial{V: p.V + q.V} }

func minJoin(p, q api.Partial) api.Partial { return api.Partial{V: min(p.V, q.V)} }

func maxJoin(p, q api.Partial) api.Partial { return api.Partial{V: max(p.V, q.V)} }

func textsJoin(p, q api.Partial) api.Partial { return api.Partial{Texts: union(p.Texts, q.Texts)} }

func count(p api.Partial) int64 { return int64(p.N) }

func number(p api.Partial) int64 { return p.V }

func howMany(p api.Partial) int64 { return int64(len(p.Texts)) }

func mayCount(p api.Partial) bool { return p.V == 0 && len(p.Texts) == 0 }

func mayNumber(p api.Partial) bool { return len(p.Texts) == 0 && (p.V == 0 || p.N != 0) }

func mayTexts(p api.Partial) bool {
	enough := len(p.Texts) > 0 || p.N == 0
	return p.V == 0 && enough && uint64(len(p.Texts)) <= p.N && rise(p.Texts) && !slices.ContainsFunc(p.Texts, tooLong)
}

// union are the texts of two lists that rise, each once, in new memory. The fewer ones are looked
// for among the others, so that one text more doesn't have all texts compared.
func union(many, few []string) []string {
	if len(many) < len(few) {
		many, few = few, many
	}
	out := make([]string, 0, len(many)+len(few))
	for _, text := range few {
		below, found := slices.BinarySearch(many, text)
		out = append(out, many[:below]...)
		out = append(out, text)
		if found {
			below++
		}
		many = many[below:]
	}
	return append(out, many...)
}

func rise(texts []string) bool {
	for place := range texts {
		if place > 0 && texts[place-1] >= texts[place] {
			return false
		}
	}
	return true
}

func tooLong(text string) bool { return len(text) > api.MaxText }

// at is what stands at a place of a row, the zero value where there is none: a fact may be of another schema.
func at[T any](row []T, place int) T {
	var none T
	if !within(place, len(row)) {
		return none
	}
	return row[place]
}

func within(place, n int) bool { return 0 <= place && place < n }
