package segment

import (
	"bytes"
	"fmt"
	"slices"
	"strings"
	"testing"

	"gristmill/api"
)

// stream tells numbers that look thrown, the same ones at each run.
type stream uint64

func (s *stream) below(n int) int {
	*s = *s*6364136223846793005 + 1442695040888963407
	return int(uint64(*s) >> 31 % uint64(n))
}

func (s *stream) text() string {
	return []string{"", "a", "b", "aa", "ab", "\x00", "\xff\xfe", strings.Repeat("a", 64), "b", "c"}[s.below(10)]
}

func (s *stream) number() int64 {
	return []int64{0, 1, -1, 2, 63, 64, -64, -65, 1 << 33, least, great}[s.below(11)]
}

func (s *stream) count() uint64 {
	return []uint64{0, 1, 1, 2, 3, 127, 128, 1 << 40, most}[s.below(9)]
}

// facts are thrown facts of a thrown schema, of which some are alike.
func (s *stream) facts(limit int) (api.Schema, []api.Many) {
	schema := api.Schema{Dims: s.below(4), Meas: s.below(4)}
	var l []api.Many
	for range s.below(limit) {
		m := many(s.count(), []int64{0, 1, 5, 6, 127, 128, 1 << 30, last}[s.below(8)], nil)
		for range schema.Dims {
			m.Fact.Dims = append(m.Fact.Dims, s.text())
		}
		for range schema.Meas {
			m.Fact.Meas = append(m.Fact.Meas, s.number())
		}
		l = append(l, m)
		if s.below(4) == 0 {
			l = append(l, l[s.below(len(l))])
		}
	}
	return schema, l
}

// mixed are the same facts in another order.
func (s *stream) mixed(l []api.Many) []api.Many {
	out := slices.Clone(l)
	for at := range out {
		other := at + s.below(len(out)-at)
		out[at], out[other] = out[other], out[at]
	}
	return out
}

// apart are the same facts, of which some come in two parts.
func (s *stream) apart(l []api.Many) []api.Many {
	var out []api.Many
	for _, m := range l {
		part := m
		part.N = s.count()
		rest := m
		rest.N -= part.N
		out = append(out, part, rest)
	}
	return out
}

// TestThrown: P10.1, P10.3, P10.4, what is built is as the document says, and is read as it was.
func TestThrown(t *testing.T) {
	thrown := stream(10)
	for range 1500 {
		s, l := thrown.facts(40)
		expectSegment(t, s, l)
	}
	for range 20 {
		s, l := thrown.facts(700)
		expectSegment(t, s, l)
	}
}

// TestSameBag: P10.4, the same bag in another order, and with alike facts apart: the same bytes; another bag: others.
func TestSameBag(t *testing.T) {
	thrown := stream(1010)
	for range 300 {
		s, l := thrown.facts(30)
		b := built(t, s, l)
		for range 3 {
			for _, same := range [][]api.Many{thrown.mixed(l), thrown.mixed(thrown.apart(l)), plainRows(l)} {
				if !bytes.Equal(built(t, s, same), b) {
					t.Fatalf("other bytes of\n%sand of\n%s", show(same), show(l))
				}
			}
		}
		if len(l) > 0 {
			more := slices.Clone(l)
			more[thrown.below(len(more))].N++
			if bytes.Equal(built(t, s, more), b) {
				t.Fatalf("the same bytes of\n%sand of\n%s", show(more), show(l))
			}
		}
	}
	if bytes.Equal(built(t, api.Schema{}, nil), built(t, schema, nil)) {
		t.Error("the same bytes of unlike schemas")
	}
}

// flipped are bytes of which some bits side by side are changed: bit i is that of 2^(i % 8) of the byte i / 8.
func flipped(b []byte, from int, pattern uint32) []byte {
	out := bytes.Clone(b)
	for bit := range 32 {
		if at := from + bit; pattern>>bit&1 == 1 && at/8 < len(out) {
			out[at/8] ^= 1 << (at % 8)
		}
	}
	return out
}

// TestChangedBits: P10.4, bytes of which up to 32 bits side by side are changed are refused.
func TestChangedBits(t *testing.T) {
	thrown := stream(32)
	long := make([]api.Many, 100)
	for at := range long {
		long[at] = one(uint64(at+1), int64(at*at), fmt.Sprint(at%9), int64(at-50))
	}
	for _, l := range [][]api.Many{nil, example(), long} {
		b := built(t, schema, l)
		for from := range len(b) * 8 {
			patterns := []uint32{1, 3, 5, 1<<31 | 1, 1<<32 - 1, 1<<16 | 1, 0xedb88320, 0xdb710641, uint32(thrown.below(1<<32-1)) | 1, uint32(thrown.below(1<<16)) | 1}
			for _, pattern := range patterns {
				changed := flipped(b, from, pattern)
				if bytes.Equal(changed, b) { // all of them are behind the end
					continue
				}
				g, code := Read(changed)
				if g != nil || code != api.ErrSum && code != api.ErrForm {
					t.Fatalf("%d facts, bits from %d on by %x: %v, %v", len(l), from, pattern, g != nil, code)
				}
			}
		}
	}
}

// TestReadThrown: P10.2, P10.4, whatever body is read is just the one that its facts are written as.
func TestReadThrown(t *testing.T) {
	thrown := stream(102)
	fine := 0
	for range 40000 {
		s, l := thrown.facts(6)
		body := []byte(plainBody(s, plainRows(l)))
		for range thrown.below(3) {
			at := thrown.below(len(body))
			switch thrown.below(4) {
			case 0:
				body[at] = byte(thrown.below(4))
			case 1:
				body[at] ^= 1 << thrown.below(8)
			case 2:
				body = slices.Insert(body, at, byte(thrown.below(3)))
			case 3:
				body = append(slices.Delete(body, at, at+1), 0)
			}
		}
		g, code := Read(framed(string(body)))
		if code != api.OK {
			if g != nil || code != api.ErrForm {
				t.Fatalf("%q: %v, %v", body, g != nil, code)
			}
			continue
		}
		fine++
		facts := g.Facts()
		if show(plainRows(facts)) != show(facts) || plainBody(g.Schema(), facts) != string(body) {
			t.Fatalf("%q is read as\n%s", body, show(facts))
		}
		expectAnswers(t, g, g.Schema(), facts)
	}
	if fine < 10000 {
		t.Errorf("only %d were read", fine)
	}
}
