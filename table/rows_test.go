package table

import (
	"fmt"
	"slices"
	"strings"
	"testing"

	"gristmill/api"
)

// spread adds as many facts as a table of only has groups then, each with a bucket of its own.
func spread(t *testing.T, x *Table, n int) {
	t.Helper()
	for at := range n {
		add(t, x, 1, event(int64(at), "a", "b", 1))
	}
}

// TestNoGroups: P9.3, a table without groups.
func TestNoGroups(t *testing.T) {
	for _, rows := range []int{0, 1, 10000} {
		x := made(t, only(func(q *api.Query) { q.Groups, q.Rows = 1, rows }))
		expectGroups(t, x)
		expectRows(t, x)
	}
}

// TestLen: P9.3, how many groups, not how many facts or Adds.
func TestLen(t *testing.T) {
	x := made(t, may())
	for n, c := range []struct {
		f    api.Fact
		want int
	}{
		{event(5, "a", "b", 1), 3}, {event(9, "a", "b", 2), 3}, {event(9, "a", "c", 2), 4}, {event(4, "z", "z", 2), 4}, {event(9, "b", "c", 2), 6}, {event(10, "a", "b", 1), 9},
	} {
		add(t, x, uint64(n+5), c.f)
		if x.Len() != c.want || len(x.Groups()) != c.want {
			t.Errorf("%d, %d groups, not %d", x.Len(), len(x.Groups()), c.want)
		}
	}
}

// TestOrder: P9.3, by Set, then Bucket, then Dims, one by one, byte by byte.
func TestOrder(t *testing.T) {
	q := only(func(q *api.Query) {
		q.Sets, q.Span = [][]int{{1}, {0, 1}, {0}}, api.Span{To: 1 << 40}
	})
	key := func(set int, bucket int64, dims ...string) api.Group {
		return api.Group{Key: api.Key{Set: set, Bucket: bucket, Dims: dims}}
	}
	rising := []api.Group{
		key(0, 0, "z"), key(0, 20, "a"), key(0, 90, "a"), key(0, 100, ""), key(0, 1000, ""),
		key(1, 0, "", ""), key(1, 0, "", "a"), key(1, 0, "", "b"), key(1, 0, "\x00", "a"), key(1, 0, "\x00a", ""), key(1, 0, "B", "a"), key(1, 0, "a", "b"), key(1, 0, "a", "ba"), key(1, 0, "a", "c"), key(1, 0, "aa", "a"),
		key(1, 0, "aaaaaaaaaaa", "a"), key(1, 0, "ab", ""), key(1, 0, "b", ""), key(1, 0, "b", "10"), key(1, 0, "b", "9"), key(1, 0, "z", ""), key(1, 0, "ÿ", ""), key(1, 0, "日", ""), key(1, 0, "\xff", ""), key(1, 0, "\xff", "\xff"),
		key(1, 1<<39/10*10, "", ""), key(2, 0, "b"), key(2, 10, "a"),
	}
	want := showGroups(rising)
	random := stream(9)
	for range 20 {
		x := made(t, q)
		for n := len(rising) - 1; n > 0; n-- {
			other := random.below(n + 1)
			rising[n], rising[other] = rising[other], rising[n]
		}
		merge(t, x, rising...)
		expectGroups(t, x, want...)
		rows, code := x.Rows()
		if code != api.OK || len(rows) != len(want) {
			t.Fatalf("%v, %v", rows, code)
		}
		for at, r := range rows {
			if showKey(r.Key) != want[at] {
				t.Errorf("%s, not %s", showKey(r.Key), want[at])
			}
		}
	}
	x := made(t, only(func(q *api.Query) { q.Sets = make([][]int, 64) }))
	add(t, x, 1, event(7, "a", "b", 1))
	for at, g := range x.Groups() {
		if g.Key.Set != at {
			t.Errorf("set %d at %d", g.Key.Set, at)
		}
	}
}

// TestLimit: P9.3, just as many groups as the query's Groups, and one more.
func TestLimit(t *testing.T) {
	for _, limit := range []int{1, 2, 7} {
		for _, most := range []int{0, 1, limit, limit + 5} {
			x := made(t, only(func(q *api.Query) {
				q.Span, q.Grain, q.Groups, q.Rows = api.Span{To: 100}, 1, limit, most
			}))
			spread(t, x, limit)
			if rows, code := x.Rows(); code != api.OK || len(rows) == 0 {
				t.Errorf("%v, %v of %d", rows, code, limit)
			}
			spread(t, x, limit+1)
			for range 2 {
				if rows, code := x.Rows(); code != api.ErrLimit || len(rows) != 0 {
					t.Errorf("%v, %v of %d", rows, code, limit)
				}
			}
			if x.Len() != limit+1 || len(x.Groups()) != limit+1 {
				t.Errorf("%d, %d groups, not %d", x.Len(), len(x.Groups()), limit+1)
			}
		}
	}
}

// TestLimitGreatest: P9.3, MaxGroups groups are told, one more isn't.
func TestLimitGreatest(t *testing.T) {
	x := made(t, only(func(q *api.Query) {
		q.Span, q.Grain, q.Groups, q.Rows = api.Span{To: 1 << 40}, 1, 10000, 10000
	}))
	spread(t, x, 10000)
	if rows, code := x.Rows(); code != api.OK || len(rows) != 10000 || rows[9999].Key.Bucket != 9999 {
		t.Errorf("%d, %v", len(rows), code)
	}
	spread(t, x, 10001)
	if rows, code := x.Rows(); code != api.ErrLimit || len(rows) != 0 {
		t.Errorf("%d, %v", len(rows), code)
	}
}

// TestRows: P9.3, Rows of 0, of fewer than there are groups, of as many, of more: the first ones.
func TestRows(t *testing.T) {
	for most, want := range map[int]int{0: 6, 1: 1, 2: 2, 5: 5, 6: 6, 7: 6, 10000: 6} {
		x := made(t, only(func(q *api.Query) {
			q.Span, q.Grain, q.Groups, q.Rows, q.Aggs = api.Span{To: 100}, 1, 6, most, []api.Agg{{Kind: api.AggCount}, {Kind: api.AggSum}}
		}))
		var l []string
		for time := 5; time >= 0; time-- {
			add(t, x, 2, event(int64(time), "a", "b", int64(time)))
			l = append([]string{fmt.Sprintf("0 %d [] = [2 %d]", time, 2*time)}, l...)
		}
		expectRows(t, x, l[:want]...)
		if x.Len() != 6 || len(x.Groups()) != 6 {
			t.Errorf("%d, %d groups", x.Len(), len(x.Groups()))
		}
	}
}

// TestNewMemory: P9.3, an answer that is written into changes nothing, nor do later calls change it.
func TestNewMemory(t *testing.T) {
	x := made(t, only(func(q *api.Query) {
		q.Sets, q.Aggs = [][]int{{0}, {0}, {}}, []api.Agg{{Kind: api.AggSum}, {Kind: api.AggDistinct, Col: 1}, {Kind: api.AggDistinct, Col: 1}}
	}))
	add(t, x, 2, event(7, "a", "k", 3), event(7, "b", "l", 4), event(7, "a", "m", 5))
	groups, rows := showGroups(x.Groups()), []string{`0 0 ["a"] = [16 2 2]`, `0 0 ["b"] = [8 1 1]`, `1 0 ["a"] = [16 2 2]`, `1 0 ["b"] = [8 1 1]`, `2 0 [] = [24 3 3]`}
	expectRows(t, x, rows...)
	told := x.Groups()
	told[0].Key.Dims[0], told[0].Parts[1].Texts[0] = "w", "w"
	for at, text := range showGroups(told)[1:] {
		if text != groups[at+1] {
			t.Errorf("%s, not %s: groups share memory", text, groups[at+1])
		}
	}
	if texts := told[0].Parts[2].Texts; !slices.Equal(texts, []string{"k", "m"}) {
		t.Errorf("parts share memory: %v", texts)
	}
	for at := range told {
		for n := range told[at].Key.Dims {
			told[at].Key.Dims[n] = "w"
		}
		for n, p := range told[at].Parts {
			for place := range p.Texts {
				p.Texts[place] = "w"
			}
			told[at].Parts[n] = api.Partial{N: 1, V: 1}
			_ = append(p.Texts, "w")
		}
		told[at] = api.Group{}
	}
	lines, _ := x.Rows()
	for at := range lines {
		for n := range lines[at].Key.Dims {
			lines[at].Key.Dims[n] = "w"
		}
		for n := range lines[at].Values {
			lines[at].Values[n] = 77
		}
		lines[at].Key.Set = 9
	}
	expectGroups(t, x, groups...)
	expectRows(t, x, rows...)

	told = x.Groups()
	lines, _ = x.Rows()
	add(t, x, 1, event(7, "a", "aa", 1), event(7, "b", "aa", 1), event(17, "0", "aa", 1))
	merge(t, x, x.Groups()...)
	expectTexts(t, "groups of before", showGroups(told), groups)
	expectTexts(t, "rows of before", showRows(lines), rows)
}

// TestAnswersSame: rule 4, the same calls have the same answers, and asking changes nothing.
func TestAnswersSame(t *testing.T) {
	x := made(t, may())
	add(t, x, 1, event(7, "a", "b", 1), event(17, "b", "b", 1), event(27, "c", strings.Repeat("d", 64), 1))
	groups := showGroups(x.Groups())
	rows, _ := x.Rows()
	for range 10 {
		expectGroups(t, x, groups...)
		expectRows(t, x, showRows(rows)...)
	}
}
