package net

import (
	"slices"
	"testing"

	"gristmill/api"
)

// TestThrownNet: P18.1 and P18.4, calls one behind the other against what the document's words say.
func TestThrownNet(t *testing.T) {
	numbers := stream(18)
	for range 200 {
		n := New()
		var want []api.Msg
		ids := uint64(0)
		for range 60 {
			i := numbers.below(len(want)+4) - 2
			there := i >= 0 && i < len(want)
			switch numbers.below(5) {
			case 0, 1:
				ids++
				m := marked(uint64(numbers.below(1000)))
				expectId(t, n.Send(m), ids)
				want = append(want, with(m, ids))
			case 2:
				m, told := n.Deliver(i)
				if there {
					expectTold(t, m, told, want[i])
					want = slices.Delete(want, i, i+1)
				} else {
					expectNothing(t, m, told)
				}
			case 3:
				if n.Lose(i) != there {
					t.Fatal("Lose", i, len(want))
				}
				if there {
					want = slices.Delete(want, i, i+1)
				}
			case 4:
				if n.Twice(i) != there {
					t.Fatal("Twice", i, len(want))
				}
				if there {
					want = append(want, want[i])
				}
			}
			expectWaiting(t, n, want...)
		}
	}
}

// TestDeliveredOften: P18.4, each sending is delivered at most once more often than it was doubled, and nothing else is.
func TestDeliveredOften(t *testing.T) {
	numbers := stream(4)
	for range 100 {
		n := New()
		may := map[uint64]int{} // how often each Id may be delivered still
		offsets := map[uint64]uint64{}
		deliver := func() {
			m, told := n.Deliver(numbers.below(n.Waiting()))
			expectTold(t, m, told, with(marked(offsets[m.Id]), m.Id))
			may[m.Id]--
			if may[m.Id] < 0 {
				t.Fatal("too often", m.Id)
			}
		}
		for range 200 {
			switch at := numbers.below(n.Waiting() + 1); numbers.below(4) {
			case 0:
				offset := uint64(numbers.below(1000))
				id := n.Send(marked(offset))
				may[id], offsets[id] = 1, offset
			case 1:
				if m, told := n.Peek(at); n.Twice(at) && told {
					may[m.Id]++
				}
			case 2:
				if m, told := n.Peek(at); n.Lose(at) && told {
					may[m.Id]--
				}
			case 3:
				if n.Waiting() > 0 {
					deliver()
				}
			}
		}
		for range n.Waiting() {
			deliver()
		}
		for id, left := range may {
			if left != 0 {
				t.Fatal("too seldom", id, left)
			}
		}
	}
}

// TestThrownSeen: P18.2, against what the document's words say, of several senders.
func TestThrownSeen(t *testing.T) {
	numbers := stream(2)
	for range 300 {
		most := numbers.below(12) - 2
		s := NewSeen(most)
		senders := map[int]*plainSeen{0: {most: most}, 7: {most: most}, -3: {most: most}}
		unlike := 1 + numbers.below(60)
		for range 200 {
			from := []int{0, 7, -3}[numbers.below(3)]
			id := uint64(numbers.below(unlike))
			expectFresh(t, s, from, senders[from].fresh(id), id)
		}
	}
}

// TestLastOnes: P18.4, of one sender's messages in any order, each any number of times, the last so many Ids are taken once, and no other one twice.
func TestLastOnes(t *testing.T) {
	numbers := stream(44)
	const count = 50
	for range 300 {
		most := 1 + numbers.below(count+5)
		var ids []uint64
		for id := range uint64(count) {
			for range 1 + numbers.below(3) {
				ids = append(ids, id+1)
			}
		}
		s := NewSeen(most)
		taken := map[uint64]int{}
		for _, id := range shuffled(&numbers, ids) {
			if s.Fresh(1, id) {
				taken[id]++
			}
		}
		for id := range uint64(count) {
			last := int(id+1) > count-most
			if got := taken[id+1]; got > 1 || last && got != 1 {
				t.Fatal("taken", got, id+1, most)
			}
		}
	}
}

// TestInTurn: P18.4, Ids that rise are each taken, whatever comes again; of Ids that fall the first so many.
func TestInTurn(t *testing.T) {
	const count = 300
	for most := 1; most < 20; most++ {
		s := NewSeen(most)
		for id := range uint64(count) {
			expectFresh(t, s, 1, true, id)
			expectFresh(t, s, 1, false, id, id, id/2)
			expectFresh(t, s, 2, id < uint64(most), count-id)
			expectFresh(t, s, 2, false, count-id)
		}
	}
}

// TestThroughNet: P18.4, what is sent, lost, doubled and turned is taken once by one who remembers enough.
func TestThroughNet(t *testing.T) {
	numbers := stream(9)
	for range 100 {
		n, s := New(), NewSeen(64)
		lost := 0
		for offset := range uint64(40) {
			n.Send(api.Msg{From: int(offset % 3), Offset: offset})
			if numbers.below(3) == 0 {
				n.Twice(numbers.below(n.Waiting()))
			}
		}
		copies := map[uint64]int{}
		for i := range n.Waiting() {
			m, _ := n.Peek(i)
			copies[m.Id]++
		}
		taken := map[uint64]int{}
		for range n.Waiting() {
			i := numbers.below(n.Waiting())
			if m, _ := n.Peek(i); numbers.below(5) == 0 && copies[m.Id] == 1 && taken[m.Id] == 0 {
				expectTrue(t, n.Lose(i))
				lost++
				continue
			}
			if m, told := n.Deliver(i); told && s.Fresh(m.From, m.Id) {
				taken[m.Id]++
				if m.Offset+1 != m.Id || taken[m.Id] > 1 {
					t.Fatal(m, taken[m.Id])
				}
			}
		}
		if len(taken)+lost != 40 {
			t.Fatal(len(taken), lost)
		}
	}
}

// TestThrownTimers: P18.3, calls one behind the other against what the document's words say.
func TestThrownTimers(t *testing.T) {
	numbers := stream(3)
	for range 300 {
		x := NewTimers()
		var p plainTimers
		for range 80 {
			id, at := uint64(numbers.below(12)), numbers.below(20)-5
			switch numbers.below(5) {
			case 0:
				if x.Stop(id) != p.stop(id) {
					t.Fatal("Stop", id)
				}
			case 1:
				expectDue(t, x, at, p.due(at)...)
			default:
				x.Set(id, at)
				p.set(id, at)
			}
		}
		expectDue(t, x, greatest, p.due(greatest)...)
	}
}
