package rules

import (
	"math"
	"slices"
	"testing"

	"gristmill/api"
)

const (
	least    = math.MinInt
	greatest = math.MaxInt
)

// stream tells numbers that look thrown, the same ones at each run.
type stream uint64

func (s *stream) below(n int) int {
	*s = *s*6364136223846793005 + 1442695040888963407
	return int(uint64(*s) >> 31 % uint64(n))
}

// shuffled is a list in an order that looks thrown, some of its items told again.
func shuffled[T any](s *stream, list []T) []T {
	out := slices.Clone(list)
	for _, one := range list {
		for s.below(3) == 0 {
			out = append(out, one)
		}
	}
	for at := len(out) - 1; at > 0; at-- {
		other := s.below(at + 1)
		out[at], out[other] = out[other], out[at]
	}
	return out
}

func seg(from, to int64, version, part, core int) api.Seg {
	return api.Seg{Span: api.Span{From: from, To: to}, Version: version, Part: part, Core: core}
}

// nth is one of a row of segments that stand as their numbers do.
func nth(n int) api.Seg {
	return seg(int64(n)*10, int64(n)*10+10, 0, 0, 1)
}

func row(count int) []api.Seg {
	var segs []api.Seg
	for n := range count {
		segs = append(segs, nth(n))
	}
	return segs
}

func on(s api.Seg, node int) api.Order {
	return api.Order{Seg: s, Node: node}
}

func off(s api.Seg, node int) api.Order {
	return api.Order{Drop: true, Seg: s, Node: node}
}

// onAll are the pairs of a segment and of each of some nodes.
func onAll(s api.Seg, nodes ...int) []api.Order {
	var out []api.Order
	for _, node := range nodes {
		out = append(out, on(s, node))
	}
	return out
}

// holding are the pairs of a node and of each of some segments.
func holding(node int, segs ...api.Seg) []api.Order {
	var out []api.Order
	for _, s := range segs {
		out = append(out, on(s, node))
	}
	return out
}

func joined(lists ...[]api.Order) []api.Order {
	return slices.Concat(lists...)
}

func expectOrders(t *testing.T, got []api.Order, want ...api.Order) {
	t.Helper()
	if !slices.Equal(got, want) {
		t.Fatalf("got %v, want %v", got, want)
	}
}

// before is the order of segments, as the document says it.
func before(a, b api.Seg) bool {
	if a.Span.From != b.Span.From {
		return a.Span.From < b.Span.From
	}
	if a.Span.To != b.Span.To {
		return a.Span.To < b.Span.To
	}
	if a.Version != b.Version {
		return a.Version < b.Version
	}
	if a.Part != b.Part {
		return a.Part < b.Part
	}
	return a.Core < b.Core
}

func beforePair(a, b api.Order) bool {
	if a.Seg != b.Seg {
		return before(a.Seg, b.Seg)
	}
	return a.Node < b.Node
}

// inOrder is a list with each of its items once, each put at its place.
func inOrder[T comparable](list []T, less func(a, b T) bool) []T {
	var out []T
	for _, one := range list {
		if slices.Contains(out, one) {
			continue
		}
		at := 0
		for at < len(out) && less(out[at], one) {
			at++
		}
		out = slices.Insert(out, at, one)
	}
	return out
}

// plain is segments, nodes and who holds what, as lists that are gone through anew for each question.
type plain struct {
	wanted []api.Seg
	living []int
	pairs  []api.Order
}

func plainOf(segs []api.Seg, have []api.Order, nodes []int) *plain {
	return &plain{
		wanted: inOrder(segs, before),
		living: inOrder(nodes, func(a, b int) bool { return a < b }),
		pairs:  plainApply(have, nil),
	}
}

func plainApply(have, l []api.Order) []api.Order {
	var pairs []api.Order
	for _, o := range have {
		pairs = append(pairs, on(o.Seg, o.Node))
	}
	for _, o := range l {
		if o.Drop {
			pairs = slices.DeleteFunc(pairs, func(one api.Order) bool { return one.Seg == o.Seg && one.Node == o.Node })
		} else {
			pairs = append(pairs, o)
		}
	}
	return inOrder(pairs, beforePair)
}

func (p *plain) holds(s api.Seg, node int) bool {
	return slices.Contains(p.pairs, on(s, node))
}

func (p *plain) load(node int) int {
	count := 0
	for _, s := range p.wanted {
		if p.holds(s, node) {
			count++
		}
	}
	return count
}

// loads are those of the living, by rising nodes.
func (p *plain) loads() []int {
	var out []int
	for _, node := range p.living {
		out = append(out, p.load(node))
	}
	return out
}

func (p *plain) holders(s api.Seg) int {
	count := 0
	for _, node := range p.living {
		if p.holds(s, node) {
			count++
		}
	}
	return count
}

// loader is the living node that is to load a segment next.
func (p *plain) loader(s api.Seg) int {
	found, best := false, 0
	for _, node := range p.living {
		if !p.holds(s, node) && (!found || p.load(node) < p.load(best)) {
			found, best = true, node
		}
	}
	return best
}

// dropper is the living node that is to drop a segment next.
func (p *plain) dropper(s api.Seg) int {
	found, best := false, 0
	for _, node := range p.living {
		if p.holds(s, node) && (!found || p.load(node) >= p.load(best)) {
			found, best = true, node
		}
	}
	return best
}

// replicasOf are as many as a number of them counts as, with so many living nodes.
func replicasOf(replicas, living int) int {
	if replicas < 1 {
		replicas = 1
	}
	if replicas > living {
		return living
	}
	return replicas
}

func plainAssign(segs []api.Seg, have []api.Order, nodes []int, replicas int) []api.Order {
	p := plainOf(segs, have, nodes)
	var orders []api.Order
	for _, one := range p.pairs {
		if slices.Contains(p.living, one.Node) && !slices.Contains(p.wanted, one.Seg) {
			orders = append(orders, off(one.Seg, one.Node))
		}
	}
	replicas = replicasOf(replicas, len(p.living))
	for _, s := range p.wanted {
		for p.holders(s) < replicas {
			o := on(s, p.loader(s))
			orders, p.pairs = append(orders, o), plainApply(p.pairs, []api.Order{o})
		}
		for p.holders(s) > replicas {
			o := off(s, p.dropper(s))
			orders, p.pairs = append(orders, o), plainApply(p.pairs, []api.Order{o})
		}
	}
	return orders
}

func plainBalance(segs []api.Seg, have []api.Order, nodes []int) []api.Order {
	p := plainOf(segs, have, nodes)
	if len(p.living) == 0 {
		return nil
	}
	a, b := p.living[0], p.living[0]
	for _, node := range p.living {
		if p.load(node) > p.load(a) {
			a = node
		}
		if p.load(node) < p.load(b) {
			b = node
		}
	}
	if p.load(a) < p.load(b)+2 {
		return nil
	}
	for _, s := range p.wanted {
		if p.holds(s, a) && !p.holds(s, b) {
			return []api.Order{on(s, b), off(s, a)}
		}
	}
	return nil
}

// throw is a case that looks thrown.
type throw struct {
	segs     []api.Seg
	have     []api.Order
	nodes    []int
	replicas int
}

// thrownSeg is a segment of few values, with ends in any order and numbers below 0.
func thrownSeg(s *stream) api.Seg {
	return seg(int64(s.below(3)-1), int64(s.below(3)-1), s.below(2)-1, s.below(2), s.below(2))
}

func thrownNode(s *stream) int {
	return []int{least, -7, -1, 0, 1, 2, 21, 22, greatest}[s.below(9)]
}

func thrown(s *stream) throw {
	var known []api.Seg
	for range 1 + s.below(8) {
		known = append(known, thrownSeg(s))
	}
	var out throw
	for range s.below(9) {
		out.segs = append(out.segs, known[s.below(len(known))])
	}
	for range s.below(30) {
		out.have = append(out.have, api.Order{Drop: s.below(2) == 0, Seg: known[s.below(len(known))], Node: thrownNode(s)})
	}
	for range s.below(9) {
		out.nodes = append(out.nodes, thrownNode(s))
	}
	out.replicas = s.below(8) - 1
	return out
}
