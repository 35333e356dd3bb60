package rules

import (
	"cmp"
	"slices"

	"gristmill/api"
)

// plan is the orders that were given so far, and what the next ones hang on.
type plan struct {
	wanted []api.Seg   // each once, as they stand
	living []int       // each once, rising
	holds  holdings    // ahead of the orders: no segment is looked at again behind its own
	loads  map[int]int // behind the orders, of each node: how many wanted segments it holds
	orders []api.Order
}

func planOf(segs []api.Seg, have []api.Order, nodes []int) *plan {
	p := &plan{
		wanted: eachOnce(segs, asTheyStand),
		living: eachOnce(nodes, cmp.Compare[int]),
		holds:  holdingsOf(have),
		loads:  map[int]int{},
	}
	for one := range p.holds {
		if p.wants(one.seg) {
			p.loads[one.node]++
		}
	}
	return p
}

// eachOnce is a list in order, in new memory.
func eachOnce[T comparable](list []T, order func(a, b T) int) []T {
	out := slices.Clone(list)
	slices.SortFunc(out, order)
	return slices.Compact(out)
}

func (p *plan) wants(seg api.Seg) bool {
	_, found := slices.BinarySearchFunc(p.wanted, seg, asTheyStand)
	return found
}

// useless tells whether a living node holds what isn't wanted; the dead are told nothing.
func (p *plan) useless(one pair) bool {
	_, lives := slices.BinarySearch(p.living, one.node)
	return lives && !p.wants(one.seg)
}

func (p *plan) byLoad(a, b int) int {
	return cmp.Compare(p.loads[a], p.loads[b])
}

// emptiestFirst are the living that a question concerns, by rising loads, of one load by rising numbers.
func (p *plan) emptiestFirst(concerns func(node int) bool) []int {
	var nodes []int
	for _, node := range p.living {
		if concerns(node) {
			nodes = append(nodes, node)
		}
	}
	// A stable sort leaves those of one load rising, as the living do.
	slices.SortStableFunc(nodes, p.byLoad)
	return nodes
}

// load tells a node to load a wanted segment that it doesn't hold.
func (p *plan) load(seg api.Seg, node int) {
	p.orders = append(p.orders, api.Order{Seg: seg, Node: node})
	p.loads[node]++
}

// drop tells a node to drop a wanted segment that it holds.
func (p *plan) drop(seg api.Seg, node int) {
	p.orders = append(p.orders, api.Order{Drop: true, Seg: seg, Node: node})
	p.loads[node]--
}

// dropUseless has what isn't wanted dropped, which changes no load.
func (p *plan) dropUseless() {
	for _, one := range p.holds.pairs() {
		if p.useless(one) {
			p.orders = append(p.orders, api.Order{Drop: true, Seg: one.seg, Node: one.node})
		}
	}
}

// bringTo has a wanted segment held by so many of the living, who are at least as many.
func (p *plan) bringTo(replicas int, seg api.Seg) {
	at := place{holds: p.holds, seg: seg}
	holders := p.emptiestFirst(at.isOn)
	if len(holders) < replicas {
		// An order changes the load of its node alone, whose turn doesn't come again: the others stay in their order.
		for _, node := range p.emptiestFirst(at.isNotOn)[:replicas-len(holders)] {
			p.load(seg, node)
		}
		return
	}
	slices.Reverse(holders)
	for _, node := range holders[:len(holders)-replicas] {
		p.drop(seg, node)
	}
}

// move has the first wanted segment that one node holds and the other doesn't held by the other in its stead: loaded first, so that it is never on fewer nodes.
func (p *plan) move(from, to int) {
	for _, seg := range p.wanted {
		at := place{holds: p.holds, seg: seg}
		if at.isOn(from) && at.isNotOn(to) {
			p.load(seg, to)
			p.drop(seg, from)
			return
		}
	}
}
