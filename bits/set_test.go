package bits

import (
	"bytes"
	"math"
	"slices"
	"testing"

	"gristmill/api"
)

// edgeRows are counts of rows at which bytes and words end, and their neighbours.
func edgeRows() []int {
	return []int{0, 1, 2, 7, 8, 9, 10, 15, 16, 17, 63, 64, 65, 70, 127, 128, 129, 200}
}

// setOf is the set of just those rows.
func setOf(t *testing.T, rows int, in ...int) *Set {
	t.Helper()
	s, code := New(rows)
	if code != api.OK {
		t.Fatalf("New(%d): %d", rows, code)
	}
	for _, row := range in {
		if code := s.Put(row); code != api.OK {
			t.Fatalf("Put(%d) of %d: %d", row, rows, code)
		}
	}
	return s
}

// thrownRows are some of the rows, rising.
func thrownRows(thrown *stream, rows int) []int {
	out := []int{}
	for row := range rows {
		if thrown.below(3) == 0 {
			out = append(out, row)
		}
	}
	return out
}

// expect asks all that a set tells of itself.
func expect(t *testing.T, s *Set, rows int, in []int) {
	t.Helper()
	if s == nil {
		t.Fatalf("no set, not one of %d rows", rows)
	}
	plain := make([]byte, (rows+7)/8)
	for _, row := range in {
		plain[row/8] |= 1 << (row % 8)
	}
	if s.Rows() != rows || s.Count() != len(in) || !slices.Equal(s.List(), in) || !bytes.Equal(s.Bytes(), plain) {
		t.Fatalf("of %d rows with %v: %d, %d, %v, %v", rows, in, s.Rows(), s.Count(), s.List(), s.Bytes())
	}
	for row := -2; row < rows+130; row++ {
		if s.Has(row) != slices.Contains(in, row) {
			t.Fatalf("of %d rows with %v: Has(%d) is %v", rows, in, row, s.Has(row))
		}
	}
}

func allRows(rows int) []int {
	out := []int{}
	for row := range rows {
		out = append(out, row)
	}
	return out
}

// TestSetExample: P2.3, the document's example.
func TestSetExample(t *testing.T) {
	s := setOf(t, 10, 0, 9)
	if !bytes.Equal(s.Bytes(), []byte{1, 2}) || s.Count() != 2 {
		t.Errorf("%v, %d", s.Bytes(), s.Count())
	}
}

// TestNewAndFull: P2.2, from 0 rows to MaxBytes.
func TestNewAndFull(t *testing.T) {
	for _, rows := range edgeRows() {
		s, code := New(rows)
		if code != api.OK {
			t.Fatalf("New(%d): %d", rows, code)
		}
		expect(t, s, rows, nil)
		s, code = Full(rows)
		if code != api.OK {
			t.Fatalf("Full(%d): %d", rows, code)
		}
		expect(t, s, rows, allRows(rows))
	}
	for _, rows := range []int{api.MaxBytes - 1, api.MaxBytes} {
		s, code := New(rows)
		if code != api.OK || s.Rows() != rows || s.Count() != 0 || len(s.List()) != 0 || len(s.Bytes()) != api.MaxBytes/8 {
			t.Errorf("New(%d): %d", rows, code)
		}
		s, code = Full(rows)
		if code != api.OK || s.Rows() != rows || s.Count() != rows || !slices.Equal(s.List(), allRows(rows)) || !s.Has(rows-1) || s.Has(rows) {
			t.Errorf("Full(%d): %d", rows, code)
		}
	}
	for _, rows := range []int{math.MinInt, -64, -1, api.MaxBytes + 1, math.MaxInt} {
		if s, code := New(rows); code != api.ErrArg || s != nil {
			t.Errorf("New(%d): %v, %d", rows, s, code)
		}
		if s, code := Full(rows); code != api.ErrArg || s != nil {
			t.Errorf("Full(%d): %v, %d", rows, s, code)
		}
	}
}

// TestPut: P2.2, Put and what is told behind it.
func TestPut(t *testing.T) {
	thrown := stream(2)
	for _, rows := range edgeRows() {
		in := []int{}
		s := setOf(t, rows)
		for range rows / 2 {
			row := thrown.below(rows)
			if code := s.Put(row); code != api.OK {
				t.Fatalf("Put(%d) of %d: %d", row, rows, code)
			}
			in = append(in, row)
			slices.Sort(in)
			in = slices.Compact(in)
			expect(t, s, rows, in)
		}
		for _, row := range []int{math.MinInt, -64, -1, rows, rows + 1, rows + 64, math.MaxInt} {
			if code := s.Put(row); code != api.ErrArg {
				t.Errorf("Put(%d) of %d: %d", row, rows, code)
			}
			if s.Has(row) {
				t.Errorf("of %d rows it has %d", rows, row)
			}
		}
		expect(t, s, rows, in)
	}
	s := setOf(t, api.MaxBytes, api.MaxBytes-1, 0)
	if s.Count() != 2 || !slices.Equal(s.List(), []int{0, api.MaxBytes - 1}) || s.Put(api.MaxBytes) != api.ErrArg {
		t.Errorf("of MaxBytes rows: %v", s.List())
	}
}

// TestNilSet: P2.2 and P2.3, nil sets in each place.
func TestNilSet(t *testing.T) {
	var none *Set
	some := setOf(t, 10, 3)
	empty := setOf(t, 0)
	if none.Put(0) != api.ErrArg || none.Put(-1) != api.ErrArg || none.Has(0) || none.Has(-1) || none.Rows() != 0 || none.Count() != 0 {
		t.Errorf("of nil: %d, %v, %d, %d", none.Put(0), none.Has(0), none.Rows(), none.Count())
	}
	if len(none.List()) != 0 || len(none.Bytes()) != 0 || none.Not() != nil {
		t.Errorf("of nil: %v, %v, %v", none.List(), none.Bytes(), none.Not())
	}
	for _, pair := range [][2]*Set{{none, none}, {none, some}, {some, none}, {none, empty}, {empty, none}} {
		if s, code := pair[0].And(pair[1]); code != api.ErrArg || s != nil {
			t.Errorf("And with nil: %v, %d", s, code)
		}
		if s, code := pair[0].Or(pair[1]); code != api.ErrArg || s != nil {
			t.Errorf("Or with nil: %v, %d", s, code)
		}
	}
	expect(t, some, 10, []int{3})
}

// TestUnlikeRows: P2.2, sets of unlike many rows, also where they have as many bytes or words.
func TestUnlikeRows(t *testing.T) {
	for _, p := range edgeRows() {
		for _, q := range edgeRows() {
			s, _ := Full(p)
			u := setOf(t, q)
			both, codeAnd := s.And(u)
			any, codeOr := s.Or(u)
			if p == q {
				expect(t, both, p, nil)
				expect(t, any, p, allRows(p))
			} else if codeAnd != api.ErrArg || codeOr != api.ErrArg || both != nil || any != nil {
				t.Errorf("of %d and %d rows: %d, %d", p, q, codeAnd, codeOr)
			}
		}
	}
}

// TestAndOrNot: P2.2 and P2.4, row by row; and what follows of them.
func TestAndOrNot(t *testing.T) {
	thrown := stream(3)
	for _, rows := range edgeRows() {
		for range 20 {
			l, m := thrownRows(&thrown, rows), thrownRows(&thrown, rows)
			s, u := setOf(t, rows, l...), setOf(t, rows, m...)
			both, any, not := []int{}, []int{}, []int{}
			for row := range rows {
				inS, inU := slices.Contains(l, row), slices.Contains(m, row)
				if inS && inU {
					both = append(both, row)
				}
				if inS || inU {
					any = append(any, row)
				}
				if !inS {
					not = append(not, row)
				}
			}
			and, codeAnd := s.And(u)
			or, codeOr := s.Or(u)
			if codeAnd != api.OK || codeOr != api.OK {
				t.Fatalf("of %d rows: %d, %d", rows, codeAnd, codeOr)
			}
			expect(t, and, rows, both)
			expect(t, or, rows, any)
			expect(t, s.Not(), rows, not)
			expect(t, s, rows, l)
			expect(t, u, rows, m)
			follow(t, s, u)
		}
	}
}

// follow: P2.4, Not of And is Or of Nots; a set and its Not share nothing, and have all rows.
func follow(t *testing.T, s, u *Set) {
	t.Helper()
	and, _ := s.And(u)
	nots, _ := s.Not().Or(u.Not())
	expect(t, and.Not(), nots.Rows(), nots.List())
	shared, _ := s.And(s.Not())
	expect(t, shared, s.Rows(), nil)
	all, _ := s.Or(s.Not())
	expect(t, all, s.Rows(), allRows(s.Rows()))
	expect(t, s.Not().Not(), s.Rows(), s.List())
}

// TestSetsOfMaxBytesFollow: P2.4 at the greatest count of rows.
func TestSetsOfMaxBytesFollow(t *testing.T) {
	s := setOf(t, api.MaxBytes, 0, 1<<19, api.MaxBytes-1)
	not := s.Not()
	shared, _ := s.And(not)
	all, _ := s.Or(not)
	if not.Count() != api.MaxBytes-3 || shared.Count() != 0 || all.Count() != api.MaxBytes || not.Has(1<<19) || !not.Has(1<<19+1) {
		t.Errorf("%d, %d, %d", not.Count(), shared.Count(), all.Count())
	}
	back, code := Parse(not.Bytes(), api.MaxBytes)
	if code != api.OK || !slices.Equal(back.List(), not.List()) {
		t.Errorf("Parse: %d", code)
	}
}

// TestNewMemory: P2.2 and P2.3, whoever changes an answer, or what was handed in, changes nothing else.
func TestNewMemory(t *testing.T) {
	s, u := setOf(t, 70, 3), setOf(t, 70, 3, 5)
	and, _ := s.And(u)
	or, _ := s.Or(u)
	same, _ := s.And(s)
	alsoSame, _ := s.Or(s)
	not := s.Not()
	for _, x := range []*Set{and, or, same, alsoSame, not} {
		x.Put(69)
		x.Put(3)
	}
	expect(t, s, 70, []int{3})
	expect(t, u, 70, []int{3, 5})
	s.Put(8)
	expect(t, and, 70, []int{3, 69})
	expect(t, or, 70, []int{3, 5, 69})
	expect(t, same, 70, []int{3, 69})
	expect(t, alsoSame, 70, []int{3, 69})

	s.Bytes()[0] = 255
	s.List()[0] = 60
	expect(t, s, 70, []int{3, 8})

	b := s.Bytes()
	back, _ := Parse(b, 70)
	b[0] = 255
	expect(t, back, 70, []int{3, 8})
	back.Put(9)
	if b[1] != 1 {
		t.Errorf("Put changed the bytes that were parsed: %v", b)
	}
}

// TestParse: P2.3, Parse answers what Bytes told, and refuses what no set tells.
func TestParse(t *testing.T) {
	thrown := stream(4)
	for _, rows := range edgeRows() {
		for range 10 {
			in := thrownRows(&thrown, rows)
			b := setOf(t, rows, in...).Bytes()
			kept := slices.Clone(b)
			s, code := Parse(b, rows)
			if code != api.OK || !bytes.Equal(b, kept) {
				t.Fatalf("Parse(%v, %d): %d", kept, rows, code)
			}
			expect(t, s, rows, in)
		}
		full, _ := Full(rows)
		refuseBeside(t, full.Bytes(), rows)
	}
	for _, rows := range []int{math.MinInt, -1, api.MaxBytes + 1, math.MaxInt} {
		for _, b := range [][]byte{nil, {0}, make([]byte, api.MaxBytes/8+1)} {
			if s, code := Parse(b, rows); code != api.ErrArg || s != nil {
				t.Errorf("Parse(%d bytes, %d): %v, %d", len(b), rows, s, code)
			}
		}
	}
	if _, code := Parse(make([]byte, api.MaxBytes/8), api.MaxBytes); code != api.OK {
		t.Errorf("of MaxBytes rows: %d", code)
	}
	if _, code := Parse(make([]byte, api.MaxBytes/8), api.MaxBytes-8); code != api.ErrForm {
		t.Errorf("of 8 rows less: %d", code)
	}
}

// refuseBeside: one byte too long, one too short, each spare bit.
func refuseBeside(t *testing.T, b []byte, rows int) {
	t.Helper()
	wrong := func(b []byte) {
		t.Helper()
		if s, code := Parse(b, rows); code != api.ErrForm || s != nil {
			t.Errorf("Parse(%v, %d): %v, %d", b, rows, s, code)
		}
	}
	wrong(append(slices.Clone(b), 0))
	if len(b) == 0 {
		return
	}
	wrong(b[:len(b)-1])
	wrong(nil)
	for i := rows; i < len(b)*8; i++ {
		bent := slices.Clone(b)
		bent[i/8] |= 1 << (i % 8)
		wrong(bent)
	}
}

// TestZeroSet: a Set that nobody made is one of 0 rows.
func TestZeroSet(t *testing.T) {
	var s Set
	expect(t, &s, 0, nil)
	if s.Put(0) != api.ErrArg {
		t.Errorf("Put: %d", s.Put(0))
	}
	expect(t, s.Not(), 0, nil)
}
