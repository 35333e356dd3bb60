package table

import (
	"cmp"
	"slices"
	"strconv"

	"gristmill/api"
	"gristmill/grain"
)

// keyOf is a fact's key in a grouping set.
func (t *Table) keyOf(f api.Fact, set int) api.Key {
	key := api.Key{Set: set, Bucket: grain.Bucket(f.Time, t.query.Grain)}
	for _, dim := range t.query.Sets[set] {
		key.Dims = append(key.Dims, f.Dims[dim])
	}
	return key
}

// textOf is a key as a text, by which groups are found. Values may have any bytes, so each one's
// length stands ahead of it: no two keys have one text.
func textOf(k api.Key) string {
	text := strconv.AppendInt(nil, int64(k.Set), 10)
	text = append(text, ':')
	text = strconv.AppendInt(text, k.Bucket, 10)
	for _, value := range k.Dims {
		text = append(text, ':')
		text = strconv.AppendInt(text, int64(len(value)), 10)
		text = append(text, ':')
		text = append(text, value...)
	}
	return string(text)
}

func compareKeys(a, b api.Key) int {
	return cmp.Or(cmp.Compare(a.Set, b.Set), cmp.Compare(a.Bucket, b.Bucket), slices.Compare(a.Dims, b.Dims))
}

// inOrder are the groups themselves, in the order of their keys, in a new row.
func (t *Table) inOrder() []api.Group {
	groups := make([]api.Group, 0, len(t.groups))
	for _, g := range t.groups {
		groups = append(groups, g)
	}
	slices.SortFunc(groups, func(a, b api.Group) int { return compareKeys(a.Key, b.Key) })
	return groups
}
