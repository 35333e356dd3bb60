package net

import (
	"math"
	"reflect"
	"slices"
	"testing"

	"gristmill/api"
)

const (
	lowest   = math.MinInt
	greatest = math.MaxInt
	highest  = math.MaxUint64
)

// stream tells numbers that look thrown, the same ones at each run.
type stream uint64

func (s *stream) below(n int) int {
	*s = *s*6364136223846793005 + 1442695040888963407
	return int(uint64(*s) >> 31 % uint64(n))
}

// shuffled are items in another order.
func shuffled[T any](s *stream, items []T) []T {
	items = slices.Clone(items)
	for last := len(items) - 1; last > 0; last-- {
		at := s.below(last + 1)
		items[at], items[last] = items[last], items[at]
	}
	return items
}

// full is a message that has something everywhere: no two of its numbers and texts are one, if it isn't longer than from to.
func full(from int) api.Msg {
	var m api.Msg
	fill(reflect.ValueOf(&m).Elem(), &from, 0)
	return m
}

// fill puts something everywhere, but for lists within so many lists.
func fill(v reflect.Value, next *int, depth int) {
	*next++
	switch v.Kind() {
	case reflect.Int, reflect.Int64:
		v.SetInt(int64(*next))
	case reflect.Uint64:
		v.SetUint(uint64(*next))
	case reflect.String:
		v.SetString("text " + string(rune(0x4e00+*next%0x5000)))
	case reflect.Bool:
		v.SetBool(true)
	case reflect.Struct:
		for n := range v.NumField() {
			fill(v.Field(n), next, depth)
		}
	case reflect.Slice:
		if depth == 3 {
			return
		}
		v.Set(reflect.MakeSlice(v.Type(), 2, 5))
		for n := range v.Len() {
			fill(v.Index(n), next, depth+1)
		}
	default:
		panic("a message has no " + v.Kind().String())
	}
}

// spoil changes all that a message reaches, what its lists have room for, too.
func spoil(m *api.Msg) { spoilAll(reflect.ValueOf(m).Elem()) }

func spoilAll(v reflect.Value) {
	switch v.Kind() {
	case reflect.Struct:
		for n := range v.NumField() {
			spoilAll(v.Field(n))
		}
	case reflect.Slice:
		room := v.Slice(0, v.Cap())
		for n := range room.Len() {
			spoilAll(room.Index(n))
		}
		v.SetZero()
	case reflect.String:
		v.SetString("spoilt")
	case reflect.Bool:
		v.SetBool(!v.Bool())
	case reflect.Uint64:
		v.SetUint(^v.Uint())
	default:
		v.SetInt(^v.Int())
	}
}

// alike holds two messages against each other; nil and empty lists are one.
func alike(a, b api.Msg) bool {
	a, b = trimmed(a), trimmed(b)
	return reflect.DeepEqual(a, b)
}

// trimmed is a message whose empty lists are nil.
func trimmed(m api.Msg) api.Msg { return trimAll(reflect.ValueOf(m)).Interface().(api.Msg) }

func trimAll(v reflect.Value) reflect.Value {
	made := reflect.New(v.Type()).Elem()
	switch v.Kind() {
	case reflect.Struct:
		for n := range v.NumField() {
			made.Field(n).Set(trimAll(v.Field(n)))
		}
	case reflect.Slice:
		for n := range v.Len() {
			made.Set(reflect.Append(made, trimAll(v.Index(n))))
		}
	default:
		made.Set(v)
	}
	return made
}

// marked is a message that is told by its Offset.
func marked(offset uint64) api.Msg { return api.Msg{Kind: api.MsgTake, Offset: offset} }

// with is a message with an Id.
func with(m api.Msg, id uint64) api.Msg {
	m.Id = id
	return m
}

// sent is a net to which these were sent, marked.
func sent(t *testing.T, offsets ...uint64) *Net {
	t.Helper()
	n := New()
	for at, offset := range offsets {
		expectId(t, n.Send(marked(offset)), uint64(at+1))
	}
	return n
}

func expectId(t *testing.T, got, want uint64) {
	t.Helper()
	if got != want {
		t.Fatalf("Id %d, not %d", got, want)
	}
}

func expectTold(t *testing.T, got api.Msg, there bool, want api.Msg) {
	t.Helper()
	if !there || !alike(got, want) {
		t.Fatalf("%v, %+v, not %+v", there, got, want)
	}
}

func expectNothing(t *testing.T, got api.Msg, there bool) {
	t.Helper()
	if there || !reflect.DeepEqual(got, api.Msg{}) {
		t.Fatalf("%v, %+v, not nothing", there, got)
	}
}

func expectTrue(t *testing.T, got bool) {
	t.Helper()
	if !got {
		t.Fatal("false")
	}
}

func expectFalse(t *testing.T, got bool) {
	t.Helper()
	if got {
		t.Fatal("true")
	}
}

// expectWaiting: just these are under way, and no others are told.
func expectWaiting(t *testing.T, n *Net, want ...api.Msg) {
	t.Helper()
	if n.Waiting() != len(want) {
		t.Fatalf("%d are under way, not %d", n.Waiting(), len(want))
	}
	for i, m := range want {
		got, there := n.Peek(i)
		expectTold(t, got, there, m)
	}
	expectNoMore(t, n, len(want))
}

// expectNoMore: what there isn't isn't told, delivered, lost or doubled.
func expectNoMore(t *testing.T, n *Net, waiting int) {
	t.Helper()
	for _, i := range []int{-1, -2, lowest, waiting, waiting + 1, greatest} {
		m, there := n.Peek(i)
		expectNothing(t, m, there)
		m, there = n.Deliver(i)
		expectNothing(t, m, there)
		expectFalse(t, n.Lose(i))
		expectFalse(t, n.Twice(i))
	}
	if n.Waiting() != waiting {
		t.Fatalf("%d are under way, not %d", n.Waiting(), waiting)
	}
}

// expectFresh asks these one by one, of one sender.
func expectFresh(t *testing.T, s *Seen, from int, want bool, ids ...uint64) {
	t.Helper()
	for at, id := range ids {
		if s.Fresh(from, id) != want {
			t.Fatalf("sender %d: the %d-th one, %d: not %v", from, at, id, want)
		}
	}
}

func expectDue(t *testing.T, x *Timers, now int, want ...uint64) {
	t.Helper()
	if got := x.Due(now); !slices.Equal(got, want) {
		t.Fatalf("at %d: %v, not %v", now, got, want)
	}
}

// plainSeen is what the document's words say of one sender.
type plainSeen struct {
	most int
	ids  []uint64
}

func (p *plainSeen) fresh(id uint64) bool {
	full := len(p.ids) >= max(p.most, 1)
	if slices.Contains(p.ids, id) || full && id < slices.Min(p.ids) {
		return false
	}
	p.ids = append(p.ids, id)
	if full {
		slices.Sort(p.ids)
		p.ids = p.ids[1:]
	}
	return true
}

// plainTimer is a timer that is set.
type plainTimer struct {
	id uint64
	at int
}

// plainTimers are those that are set, by rising ids.
type plainTimers []plainTimer

func (p *plainTimers) stop(id uint64) bool {
	before := len(*p)
	*p = slices.DeleteFunc(*p, func(x plainTimer) bool { return x.id == id })
	return len(*p) < before
}

func (p *plainTimers) set(id uint64, at int) {
	p.stop(id)
	*p = append(*p, plainTimer{id: id, at: at})
	slices.SortFunc(*p, func(a, b plainTimer) int {
		if a.id < b.id {
			return -1
		}
		return 1
	})
}

// due takes the earliest one, of those at one time the one of the least id, till none is due.
func (p *plainTimers) due(now int) []uint64 {
	var ids []uint64
	for {
		first := -1
		for n, x := range *p {
			if x.at <= now && (first < 0 || x.at < (*p)[first].at) {
				first = n
			}
		}
		if first < 0 {
			return ids
		}
		ids = append(ids, (*p)[first].id)
		p.stop((*p)[first].id)
	}
}
