package filter

import (
	"slices"
	"strings"

	"gristmill/api"
)

// Holds tells whether a filter holds of a fact.
func Holds(f api.Filter, x api.Fact) bool { return !tooGreat(f) && holds(f, x) }

func holds(f api.Filter, x api.Fact) bool {
	switch f.Kind {
	case api.FilterAll, api.FilterAnd:
		return !one(false, x, kids(f)...)
	case api.FilterNot:
		return one(false, x, kids(f)...)
	case api.FilterOr:
		return one(true, x, kids(f)...)
	case api.FilterMeas:
		return within(f.Dim, len(x.Meas)) && f.Lo <= x.Meas[f.Dim] && x.Meas[f.Dim] <= f.Hi
	}
	return within(f.Dim, len(x.Dims)) && holdsText(f, x.Dims[f.Dim])
}

// one tells whether one of filters answers so of a fact.
func one(answer bool, x api.Fact, filters ...api.Filter) bool {
	for _, f := range filters {
		if holds(f, x) == answer {
			return true
		}
	}
	return false
}

// holdsText looks at a dimension's text. Texts that may be missing are asked for first.
func holdsText(f api.Filter, text string) bool {
	switch f.Kind {
	case api.FilterIs:
		return slices.Contains(f.Texts, text)
	case api.FilterRange:
		return len(f.Texts) == 2 && f.Texts[0] <= text && text < f.Texts[1]
	case api.FilterBegin:
		return len(f.Texts) == 1 && strings.HasPrefix(text, f.Texts[0])
	}
	return false
}
