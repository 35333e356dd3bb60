package historical

import (
	"strings"

	"gristmill/api"
)

const (
	labelMark    = "s"
	digits       = "0123456789ABCDEFGHIJKLMNOPQRSTUVWXYZabcdefghijklmnopqrstuvwxyz+-"
	digitBits    = 6
	numberDigits = 11 // of 64 bits
	sumDigits    = 6  // of 32 bits
	segNumbers   = 5  // of a segment's name
)

// label tells which segment a blob has, and by the sum which bytes. The blob's name is its text: as one blob is all that
// is kept of a segment, all of it must be told by that, and a disk has room for as many segments as for files.
type label struct {
	seg api.Seg
	sum uint32
}

// text is a label as a blob's name; each has just one.
func (l label) text() string {
	text := []byte(labelMark)
	s := l.seg
	for _, n := range [segNumbers]uint64{
		uint64(s.Span.From), uint64(s.Span.To), uint64(s.Version), uint64(s.Part), uint64(s.Core),
	} {
		text = putNumber(text, n, numberDigits)
	}
	return string(putNumber(text, uint64(l.sum), sumDigits))
}

// labelOf is the label that has this text; false, if none has.
func labelOf(text string) (label, bool) {
	if len(text) != len(labelMark)+segNumbers*numberDigits+sumDigits {
		return label{}, false
	}
	rest := text[len(labelMark):]
	var n [segNumbers]uint64
	for at := range n {
		n[at] = numberOf(rest[:numberDigits])
		rest = rest[numberDigits:]
	}
	l := label{
		seg: api.Seg{
			Span:    api.Span{From: int64(n[0]), To: int64(n[1])},
			Version: int(n[2]), Part: int(n[3]), Core: int(n[4]),
		},
		sum: uint32(numberOf(rest)),
	}
	// What is no digit, or is too great, is told by the label's own text.
	if l.text() != text {
		return label{}, false
	}
	return l, true
}

// putNumber puts so many digits of a number behind a text.
func putNumber(text []byte, n uint64, many int) []byte {
	for at := many - 1; at >= 0; at-- {
		text = append(text, digits[n>>(digitBits*at)%uint64(len(digits))])
	}
	return text
}

// numberOf is the number of some digits, or any other one, if they are none.
func numberOf(text string) uint64 {
	n := uint64(0)
	for _, c := range []byte(text) {
		n = n<<digitBits | uint64(strings.IndexByte(digits, c))
	}
	return n
}
