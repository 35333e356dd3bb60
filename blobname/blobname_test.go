package blobname

import (
	"math"
	"testing"
)

// TestOf: who, the numbers as short as may be, and the bytes' mark.
func TestOf(t *testing.T) {
	for _, c := range []struct {
		who     string
		b       string
		numbers []uint64
		want    string
	}{
		{"r", "", nil, "r.33niihzj4ux45"},
		{"c", "a", []uint64{0, 35, 36}, "c.0.z.10.2o0ongoiv4rrg"},
		{"c", "foobar", []uint64{math.MaxUint64}, "c.3w5e11264sgsf.214ng2xt5fmco"},
	} {
		if got := Of(c.who, []byte(c.b), c.numbers...); got != c.want {
			t.Errorf("%q, not %q", got, c.want)
		}
	}
}

// TestUnlike: unlike bytes, numbers, ways to cut the numbers have unlike names; like ones have one.
func TestUnlike(t *testing.T) {
	met := map[string]bool{}
	for _, who := range []string{"r", "c"} {
		for _, b := range []string{"", "a", "b", "ab", "ba", "\x00", "\x00\x00", "a\x00"} {
			for _, numbers := range [][]uint64{nil, {0}, {1}, {0, 1}, {1, 0}, {36}, {1, 36}, {136}} {
				name := Of(who, []byte(b), numbers...)
				if met[name] || name != Of(who, []byte(b), numbers...) {
					t.Error(name)
				}
				met[name] = true
			}
		}
	}
}

// TestLength: a name of the greatest numbers that a blob's is made of is a blob's.
func TestLength(t *testing.T) {
	for _, numbers := range [][]uint64{
		{math.MaxInt64, math.MaxInt64, 1 << 40, 1 << 40},
		{7, math.MaxUint64, 1 << 40},
	} {
		for b := range 99 {
			name := Of("c", []byte{byte(b), 7}, numbers...)
			if len(name) > 62 {
				t.Error(name)
			}
			for _, c := range []byte(name) {
				if c < 33 || c > 126 {
					t.Error(name)
				}
			}
		}
	}
}

// TestHandedIn: rule 3, what is handed in isn't changed.
func TestHandedIn(t *testing.T) {
	b, numbers := []byte("abc"), []uint64{5, 6}
	Of("c", b, numbers...)
	if string(b) != "abc" || numbers[0] != 5 || numbers[1] != 6 {
		t.Error("changed")
	}
}
