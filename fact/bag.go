package fact

import (
	"slices"

	"gristmill/api"
)

// Bag is facts, each as often as it is there, in order.
func Bag(l []api.Fact) []api.Many {
	rows := make([]api.Many, len(l))
	for at, f := range l {
		rows[at] = api.Many{Fact: f, N: 1}
	}
	return bagOf(rows)
}

// Join is two bags together.
func Join(a, b []api.Many) []api.Many { return bagOf(slices.Concat(a, b)) }

// Within are those of a bag whose times are of a span.
func Within(b []api.Many, s api.Span) []api.Many {
	return taken(b, func(f api.Fact) bool { return holds(s, f.Time) })
}

// Without are those whose times are not.
func Without(b []api.Many, s api.Span) []api.Many {
	return taken(b, func(f api.Fact) bool { return !holds(s, f.Time) })
}

// Count is how many there are.
func Count(b []api.Many) uint64 {
	total := uint64(0)
	for _, m := range b {
		total += m.N
	}
	return total
}

// Same tells whether two bags have the same facts, each as often.
func Same(a, b []api.Many) bool {
	return slices.EqualFunc(bagOf(a), bagOf(b), func(x, y api.Many) bool {
		return x.N == y.N && Compare(x.Fact, y.Fact) == 0
	})
}

func holds(s api.Span, time int64) bool { return s.From <= time && time < s.To }

// taken is the bag of those facts that are wanted. Alike facts are wanted all or none, so what
// is chosen may be chosen ahead of being put together.
func taken(rows []api.Many, wanted func(api.Fact) bool) []api.Many {
	chosen := []api.Many{}
	for _, m := range rows {
		if wanted(m.Fact) {
			chosen = append(chosen, m)
		}
	}
	return bagOf(chosen)
}

// bagOf is the bag that rows stand for, in new memory.
func bagOf(rows []api.Many) []api.Many {
	sorted := slices.Clone(rows)
	slices.SortStableFunc(sorted, func(a, b api.Many) int { return Compare(a.Fact, b.Fact) })
	bag := []api.Many{}
	for from := 0; from < len(sorted); {
		to := behindAlike(sorted, from)
		// Ns that turn round may come to 0 and go on, so a fact is left out only by all of its Ns.
		if n := Count(sorted[from:to]); n != 0 {
			bag = append(bag, api.Many{Fact: copied(sorted[from].Fact), N: n})
		}
		from = to
	}
	return bag
}

// behindAlike is the place behind the facts that are alike to the one at from.
func behindAlike(sorted []api.Many, from int) int {
	to := from + 1
	for to < len(sorted) && Compare(sorted[from].Fact, sorted[to].Fact) == 0 {
		to++
	}
	return to
}

func copied(f api.Fact) api.Fact {
	return api.Fact{Time: f.Time, Dims: slices.Clone(f.Dims), Meas: slices.Clone(f.Meas)}
}
