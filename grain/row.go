package grain

import (
	"cmp"
	"slices"

	"gristmill/api"
)

// Union is spans together, as few as may be, rising.
func Union(l []api.Span) []api.Span {
	var out []api.Span
	for _, s := range byFrom(l) {
		last := len(out) - 1
		// Spans that only touch are put together too: no moment lies between them.
		if last >= 0 && s.From <= out[last].To {
			out[last].To = max(out[last].To, s.To)
		} else {
			out = append(out, s)
		}
	}
	return out
}

// Minus is what of a span no one of others holds.
func Minus(s api.Span, l []api.Span) []api.Span {
	var out []api.Span
	for _, gone := range byFrom(l) {
		out = withPart(out, api.Span{From: s.From, To: min(s.To, gone.From)})
		s.From = max(s.From, gone.To)
	}
	return withPart(out, s)
}

// byFrom is a new row of those that aren't empty. How those with one From stand is free: of their Tos the greatest counts.
func byFrom(l []api.Span) []api.Span {
	var row []api.Span
	for _, s := range l {
		row = withPart(row, s)
	}
	slices.SortFunc(row, func(a, b api.Span) int {
		return cmp.Compare(a.From, b.From)
	})
	return row
}

// withPart is a row and a part behind it, if that holds anything.
func withPart(row []api.Span, part api.Span) []api.Span {
	if Empty(part) {
		return row
	}
	return append(row, part)
}
