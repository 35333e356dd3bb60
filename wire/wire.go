// Package wire is numbers, texts, frames and messages as bytes.
package wire

const (
	sumAdded   = 3988292384 // what the sum's register is changed by
	mostOfUint = 10         // bytes of a number of 64 bits, at most
	bitsEach   = 7          // of a number, in each byte; the eighth bit says whether bytes follow
	more       = 1 << bitsEach
)

// Sum is the bytes' sum.
func Sum(b []byte) uint32 {
	register := ^uint32(0)
	for _, c := range b {
		// All eight bits may be mixed in ahead of the moves: a bit meets the lowest place at just its own move.
		register ^= uint32(c)
		for range 8 {
			differ := register & 1
			register = register>>1 ^ sumAdded*differ
		}
	}
	return ^register
}

// Uint is bytes with a number from 0 on behind them.
func Uint(b []byte, n uint64) []byte {
	return addUint(roomBehind(b, mostOfUint), n)
}

// Int is bytes with a number behind them.
func Int(b []byte, n int64) []byte {
	return addUint(roomBehind(b, mostOfUint), folded(n))
}

// Text is bytes with a text behind them.
func Text(b []byte, s string) []byte {
	return append(addUint(roomBehind(b, mostOfUint+len(s)), uint64(len(s))), s...)
}

// roomBehind is the bytes in new memory, which has room for so many more.
func roomBehind(b []byte, room int) []byte {
	return append(make([]byte, 0, len(b)+room), b...)
}

// addUint appends in place, so that a long row of numbers isn't copied for each of them.
func addUint(b []byte, n uint64) []byte {
	for n >= more {
		b = append(b, byte(n)|more)
		n >>= bitsEach
	}
	return append(b, byte(n))
}

// folded is the number from 0 on as which a number is written: 2n, or -2n - 1 below 0.
func folded(n int64) uint64 {
	if n < 0 {
		return ^(uint64(n) << 1)
	}
	return uint64(n) << 1
}

// unfolded is the number that is written as n.
func unfolded(n uint64) int64 {
	if n&1 == 1 {
		return int64(^(n >> 1))
	}
	return int64(n >> 1)
}
