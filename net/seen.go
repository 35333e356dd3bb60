package net

import "container/heap"

// Seen is which messages came already.
type Seen struct {
	most int
	rows map[int]*row // by their senders
}

// row is what is remembered of one sender.
type row struct {
	ids   map[uint64]struct{}
	order rising // the same Ids, so that the least one needn't be searched for
}

// NewSeen remembers so many a sender.
func NewSeen(most int) *Seen { return &Seen{most: most} }

// Fresh tells whether a message comes for the first time.
func (s *Seen) Fresh(from int, id uint64) bool {
	if s == nil {
		return false
	}
	r := s.rowOf(from)
	full := len(r.ids) >= max(s.most, 1)
	if r.has(id) || full && id < r.least() {
		return false
	}
	r.remember(id)
	if full {
		r.forgetLeast()
	}
	return true
}

// rowOf is the row of a sender, of which nothing may be remembered so far.
func (s *Seen) rowOf(from int) *row {
	if s.rows == nil {
		s.rows = map[int]*row{}
	}
	if s.rows[from] == nil {
		s.rows[from] = &row{ids: map[uint64]struct{}{}}
	}
	return s.rows[from]
}

func (r *row) has(id uint64) bool {
	_, there := r.ids[id]
	return there
}

func (r *row) least() uint64 { return r.order[0] }

func (r *row) remember(id uint64) {
	r.ids[id] = struct{}{}
	heap.Push(&r.order, id)
}

func (r *row) forgetLeast() {
	delete(r.ids, r.least())
	heap.Pop(&r.order)
}

// rising is a heap, from which the least number comes first.
type rising []uint64

func (l rising) Len() int { return len(l) }

func (l rising) Less(i, j int) bool { return l[i] < l[j] }

func (l rising) Swap(i, j int) { l[i], l[j] = l[j], l[i] }

func (l *rising) Push(x any) { *l = append(*l, x.(uint64)) }

func (l *rising) Pop() any {
	last := len(*l) - 1
	id := (*l)[last]
	*l = (*l)[:last]
	return id
}
