package bits

import (
	"math/bits"

	"gristmill/api"
)

const (
	wordBits  = 64
	wordBytes = wordBits / byteBits
	allOnes   = ^uint64(0)
)

// Set is a set of rows from 0 on.
type Set struct {
	rows  int
	words []uint64 // bits of rows that there are not are always 0
}

// New is the empty set of so many rows.
func New(rows int) (*Set, api.Errno) {
	if !isRows(rows) {
		return nil, api.ErrArg
	}
	return made(rows, func(int) uint64 { return 0 }), api.OK
}

// Full is the set of all rows.
func Full(rows int) (*Set, api.Errno) {
	if !isRows(rows) {
		return nil, api.ErrArg
	}
	return made(rows, func(int) uint64 { return allOnes }), api.OK
}

// Put puts a row in.
func (s *Set) Put(row int) api.Errno {
	if !s.isRow(row) {
		return api.ErrArg
	}
	s.words[row/wordBits] |= 1 << (row % wordBits)
	return api.OK
}

// Has tells whether a row is in.
func (s *Set) Has(row int) bool {
	return s.isRow(row) && s.words[row/wordBits]>>(row%wordBits)&1 == 1
}

// Rows is of how many rows it is.
func (s *Set) Rows() int {
	if s == nil {
		return 0
	}
	return s.rows
}

// Count is how many are in.
func (s *Set) Count() int {
	if s == nil {
		return 0
	}
	many := 0
	for i := range len(s.words) {
		many += bits.OnesCount64(s.words[i])
	}
	return many
}

// And is what is in both.
func (s *Set) And(t *Set) (*Set, api.Errno) {
	if !alike(s, t) {
		return nil, api.ErrArg
	}
	return made(s.rows, func(i int) uint64 { return s.words[i] & t.words[i] }), api.OK
}

// Or is what is in one of both.
func (s *Set) Or(t *Set) (*Set, api.Errno) {
	if !alike(s, t) {
		return nil, api.ErrArg
	}
	return made(s.rows, func(i int) uint64 { return s.words[i] | t.words[i] }), api.OK
}

// Not is what is not in.
func (s *Set) Not() *Set {
	if s == nil {
		return nil
	}
	return made(s.rows, func(i int) uint64 { return ^s.words[i] })
}

// List are the rows that are in, rising.
func (s *Set) List() []int {
	if s == nil {
		return nil
	}
	out := make([]int, 0, s.Count())
	for i := range len(s.words) {
		for left := s.words[i]; left != 0; left &= left - 1 {
			out = append(out, i*wordBits+bits.TrailingZeros64(left))
		}
	}
	return out
}

// Bytes are the set's.
func (s *Set) Bytes() []byte {
	if s == nil {
		return nil
	}
	out := make([]byte, bytesFor(s.rows))
	for i := range out {
		out[i] = byte(s.words[i/wordBytes] >> (i % wordBytes * byteBits))
	}
	return out
}

// Parse is the set of so many rows of bytes.
func Parse(b []byte, rows int) (*Set, api.Errno) {
	if !isRows(rows) {
		return nil, api.ErrArg
	}
	if !holdsJust(b, rows) {
		return nil, api.ErrForm
	}
	return made(rows, func(i int) uint64 { return wordAt(b, i*wordBytes) }), api.OK
}

func isRows(rows int) bool { return rows >= 0 && rows <= api.MaxBytes }

func (s *Set) isRow(row int) bool { return s != nil && row >= 0 && row < s.rows }

func alike(s, t *Set) bool { return s != nil && t != nil && s.rows == t.rows }

// made is the set of so many rows whose words the function tells; who tells them needn't heed where the rows end.
func made(rows int, word func(i int) uint64) *Set {
	s := &Set{rows: rows, words: make([]uint64, (rows+wordBits-1)/wordBits)}
	for i := range len(s.words) {
		s.words[i] = word(i)
	}
	if over := rows % wordBits; over > 0 {
		s.words[len(s.words)-1] &= 1<<over - 1
	}
	return s
}

// wordAt is the word whose lowest byte is b's at from; bytes that b doesn't have are 0.
func wordAt(b []byte, from int) uint64 {
	word := uint64(0)
	for k, x := range b[from:min(from+wordBytes, len(b))] {
		word |= uint64(x) << (k * byteBits)
	}
	return word
}
