package bits

import (
	"bytes"
	"math"
	"slices"
	"testing"

	"gristmill/api"
)

// plainWidth tries one width behind the other, as the document's words say it.
func plainWidth(n int) int {
	for w := range 63 {
		if n <= 1<<w {
			return w
		}
	}
	return 63
}

// plainPack sets one bit behind the other, as the document's words say it.
func plainPack(l []int, width int) []byte {
	out := []byte{}
	for len(out)*8 < len(l)*width {
		out = append(out, 0)
	}
	for k, n := range l {
		for j := range width {
			i := width*k + j
			out[i/8] |= byte(n>>j&1) << (i % 8)
		}
	}
	return out
}

// stream tells numbers that look thrown, the same ones at each run.
type stream uint64

func (s *stream) below(n int) int {
	*s = *s*6364136223846793005 + 1442695040888963407
	return int(uint64(*s) >> 31 % uint64(n))
}

// TestWidth: P2.1, Width.
func TestWidth(t *testing.T) {
	for _, c := range [][2]int{
		{math.MinInt, 0}, {-7, 0}, {-1, 0}, {0, 0}, {1, 0}, {2, 1}, {3, 2}, {256, 8}, {257, 9},
		{1 << 32, 32}, {1<<32 + 1, 33}, {1 << 62, 62}, {1<<62 + 1, 63}, {math.MaxInt, 63},
	} {
		if got := Width(c[0]); got != c[1] {
			t.Errorf("Width(%d): %d, not %d", c[0], got, c[1])
		}
	}
	for n := range 5000 {
		if got := Width(n); got != plainWidth(n) {
			t.Errorf("Width(%d): %d, not %d", n, got, plainWidth(n))
		}
	}
	for w := 1; w < 63; w++ {
		for _, n := range []int{1<<w - 1, 1 << w, 1<<w + 1} {
			if got := Width(n); got != plainWidth(n) {
				t.Errorf("Width(%d): %d, not %d", n, got, plainWidth(n))
			}
		}
	}
}

// TestPackExample: P2.1, the document's example, and rows that end within and at the end of a byte.
func TestPackExample(t *testing.T) {
	for _, c := range []struct {
		l     []int
		width int
		want  []byte
	}{
		{[]int{1, 2, 3}, 2, []byte{57}},
		{[]int{1, 2, 3, 3}, 2, []byte{249}},
		{[]int{1, 2, 3, 3, 1}, 2, []byte{249, 1}},
		{[]int{1, 0, 0, 0, 0, 0, 0, 0, 1}, 1, []byte{1, 1}},
		{[]int{511, 0, 511}, 9, []byte{255, 1, 252, 7}},
		{[]int{math.MaxUint32, 1}, 32, []byte{255, 255, 255, 255, 1, 0, 0, 0}},
		{[]int{0, 0, 0}, 0, nil},
		{nil, 0, nil},
		{[]int{}, 7, nil},
		{nil, 32, nil},
	} {
		if got, code := Pack(c.l, c.width); code != api.OK || !bytes.Equal(got, c.want) {
			t.Errorf("Pack(%v, %d): %v, %d", c.l, c.width, got, code)
		}
		if got, code := Unpack(c.want, c.width, len(c.l)); code != api.OK || !slices.Equal(got, c.l) {
			t.Errorf("Unpack(%v, %d, %d): %v, %d", c.want, c.width, len(c.l), got, code)
		}
	}
}

// TestPackAllWidths: P2.1 and P2.4, what is packed is as the words say, and is unpacked as it was.
func TestPackAllWidths(t *testing.T) {
	thrown := stream(1)
	for width := range 33 {
		for many := range 70 {
			l := make([]int, many)
			for i := range l {
				l[i] = thrown.below(1 << width)
			}
			if many > 2 {
				l[many/2], l[many-1] = 1<<width-1, 1<<width-1
			}
			kept := slices.Clone(l)
			b, code := Pack(l, width)
			if code != api.OK || !bytes.Equal(b, plainPack(l, width)) {
				t.Fatalf("Pack(%v, %d): %v, %d", l, width, b, code)
			}
			held := slices.Clone(b)
			got, code := Unpack(b, width, many)
			if code != api.OK || !slices.Equal(got, l) {
				t.Fatalf("Unpack(%v, %d, %d): %v, %d", b, width, many, got, code)
			}
			if !slices.Equal(l, kept) || !bytes.Equal(b, held) {
				t.Fatalf("width %d, %d numbers: what was handed in was changed", width, many)
			}
		}
	}
}

// TestPackWrong: P2.1, widths beyond 0 and 32, and numbers that just don't fit.
func TestPackWrong(t *testing.T) {
	wrong := func(l []int, width int) {
		t.Helper()
		if b, code := Pack(l, width); code != api.ErrArg || b != nil {
			t.Errorf("Pack(%v, %d): %v, %d", l, width, b, code)
		}
	}
	for _, width := range []int{math.MinInt, -1, 33, 64, 65, math.MaxInt} {
		wrong(nil, width)
		wrong([]int{0}, width)
	}
	for width := range 33 {
		for _, n := range []int{1 << width, -1, math.MinInt, math.MaxInt, math.MinInt + 1, -1 << width, 1 << 62} {
			wrong([]int{n}, width)
			wrong([]int{0, 0, n}, width)
			wrong([]int{n, 0, 0}, width)
		}
		if _, code := Pack([]int{1<<width - 1, 0, 1<<width - 1}, width); code != api.OK {
			t.Errorf("the greatest number of %d bits: %d", width, code)
		}
	}
}

// TestPackMany: P2.1, only Unpack heeds how many there are.
func TestPackMany(t *testing.T) {
	for _, width := range []int{0, 1, 3, 32} {
		l := make([]int, api.MaxBytes+1)
		l[api.MaxBytes-1] = 1<<width - 1
		b, code := Pack(l[:api.MaxBytes], width)
		if code != api.OK || len(b) != api.MaxBytes/8*width {
			t.Fatalf("width %d: %d bytes, %d", width, len(b), code)
		}
		if got, code := Unpack(b, width, api.MaxBytes); code != api.OK || !slices.Equal(got, l[:api.MaxBytes]) {
			t.Errorf("width %d, MaxBytes numbers: %d", width, code)
		}
		b, code = Pack(l, width)
		if code != api.OK || len(b) != (len(l)*width+7)/8 {
			t.Errorf("width %d, one more than MaxBytes: %d bytes, %d", width, len(b), code)
		}
		if got, code := Unpack(b, width, api.MaxBytes+1); code != api.ErrArg || got != nil {
			t.Errorf("width %d, one more than MaxBytes: %d numbers, %d", width, len(got), code)
		}
	}
}

// TestUnpackArg: P2.1, ErrArg goes ahead of ErrForm.
func TestUnpackArg(t *testing.T) {
	for _, c := range [][2]int{
		{-1, 0}, {33, 0}, {-1, 8}, {33, 8}, {math.MinInt, 1}, {math.MaxInt, 1}, {-8, -1},
		{0, -1}, {8, -1}, {32, math.MinInt}, {0, api.MaxBytes + 1}, {1, api.MaxBytes + 1}, {32, math.MaxInt},
	} {
		for _, b := range [][]byte{nil, {0}, {255, 255, 255}} {
			if l, code := Unpack(b, c[0], c[1]); code != api.ErrArg || l != nil {
				t.Errorf("Unpack(%v, %d, %d): %v, %d", b, c[0], c[1], l, code)
			}
		}
	}
}

// TestUnpackForm: P2.1, bytes one too long and one too short, and each spare bit.
func TestUnpackForm(t *testing.T) {
	wrong := func(b []byte, width, many int) {
		t.Helper()
		if l, code := Unpack(b, width, many); code != api.ErrForm || l != nil {
			t.Errorf("Unpack(%v, %d, %d): %v, %d", b, width, many, l, code)
		}
	}
	for width := range 33 {
		for many := range 20 {
			b := make([]byte, (width*many+7)/8)
			wrong(append(slices.Clone(b), 0), width, many)
			if len(b) == 0 {
				continue
			}
			wrong(b[1:], width, many)
			for i := range len(b) * 8 {
				b[i/8] = 1 << (i % 8)
				if i >= width*many {
					wrong(b, width, many)
				} else if l, code := Unpack(b, width, many); code != api.OK || l[i/width] != 1<<(i%width) {
					t.Errorf("width %d, the bit %d: %v, %d", width, i, l, code)
				}
				b[i/8] = 0
			}
		}
	}
	wrong(nil, 8, 1)
	wrong([]byte{0}, 0, 1)
	wrong([]byte{0}, 8, 0)
	wrong([]byte{0}, 0, api.MaxBytes)
}
