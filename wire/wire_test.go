package wire

import (
	"bytes"
	"hash/crc32"
	"math"
	"strings"
	"testing"

	"gristmill/api"
)

// edgeUints are numbers at which the count of bytes changes, and their neighbours.
func edgeUints() []uint64 {
	out := []uint64{0, 1, 300, math.MaxUint64}
	for bits := 1; bits < 64; bits++ {
		out = append(out, 1<<bits-1, 1<<bits, 1<<bits+1)
	}
	return out
}

// plainUint writes a number as the document's words say it, by division.
func plainUint(n uint64) []byte {
	out := []byte{byte(n % 128)}
	for n /= 128; n > 0; n /= 128 {
		out[len(out)-1] += 128
		out = append(out, byte(n%128))
	}
	return out
}

// plainSum goes bit by bit, as the document's words say it.
func plainSum(b []byte) uint32 {
	register := uint32(math.MaxUint32)
	for _, c := range b {
		for bit := range 8 {
			differ := register&1 != uint32(c>>bit)&1
			register >>= 1
			if differ {
				register ^= 3988292384
			}
		}
	}
	return ^register
}

// TestSum: P1.1, the sum.
func TestSum(t *testing.T) {
	if got := Sum([]byte("123456789")); got != 3421780262 {
		t.Errorf("sum of the document's example: %d", got)
	}
	if got := Sum(nil); got != 0 {
		t.Errorf("sum of nothing: %d", got)
	}
	b := []byte{}
	for n := range 600 {
		b = append(b, byte(n*n+n/7))
		if got := Sum(b); got != plainSum(b) || got != crc32.ChecksumIEEE(b) {
			t.Fatalf("sum of %d bytes: %d", len(b), got)
		}
	}
}

// TestNumbers: P1.1 and P1.2, numbers as bytes, there and back.
func TestNumbers(t *testing.T) {
	for _, n := range edgeUints() {
		want := plainUint(n)
		if got := Uint([]byte("x"), n); string(got) != "x"+string(want) {
			t.Errorf("Uint of %d: %v", n, got)
		}
		r := Read(want)
		if got := r.Uint(); got != n || r.Left() != 0 || r.End() != api.OK {
			t.Errorf("%d was read as %d, %v", n, got, r.End())
		}
		for _, k := range []int64{int64(n), -int64(n)} {
			r := Read(Int(nil, k))
			if got := r.Int(); got != k || r.End() != api.OK {
				t.Errorf("%d was read as %d, %v", k, got, r.End())
			}
		}
	}
}

// TestInts: P1.1, the bytes of numbers that may be below 0.
func TestInts(t *testing.T) {
	cases := []struct {
		n    int64
		want uint64
	}{{0, 0}, {-1, 1}, {1, 2}, {-2, 3}, {63, 126}, {-64, 127}, {64, 128}, {math.MaxInt64, math.MaxUint64 - 1}, {math.MinInt64, math.MaxUint64}}
	for _, c := range cases {
		if got := Int([]byte{9}, c.n); !bytes.Equal(got, append([]byte{9}, plainUint(c.want)...)) {
			t.Errorf("Int of %d: %v", c.n, got)
		}
	}
}

// TestTexts: P1.1 and P1.2, texts as bytes, there and back.
func TestTexts(t *testing.T) {
	if got := Text(nil, "ab"); !bytes.Equal(got, []byte{2, 97, 98}) {
		t.Errorf("Text of ab: %v", got)
	}
	if got := Text(nil, ""); !bytes.Equal(got, []byte{0}) {
		t.Errorf("Text of nothing: %v", got)
	}
	for _, s := range []string{"", "a", "\x00\xff", "ж", strings.Repeat("q", 127), strings.Repeat("r", 128), strings.Repeat("s", 70000)} {
		b := Text([]byte("xy"), s)
		if want := "xy" + string(plainUint(uint64(len(s)))) + s; string(b) != want {
			t.Errorf("Text of %d bytes", len(s))
		}
		r := Read(b[2:])
		if got := r.Text(); got != s || r.End() != api.OK {
			t.Errorf("a text of %d bytes was read as %d, %v", len(s), len(got), r.End())
		}
	}
}

// TestNewMemory: P1.1, what is answered shares nothing with what was handed in.
func TestNewMemory(t *testing.T) {
	calls := map[string]func([]byte) []byte{
		"Uint": func(b []byte) []byte { return Uint(b, 5) },
		"Int":  func(b []byte) []byte { return Int(b, 5) },
		"Text": func(b []byte) []byte { return Text(b, "five") },
	}
	for name, call := range calls {
		room := []byte("abcdefghijklmnopqrstuvwxyz")
		b := room[:3]
		got := call(b)
		if string(room) != "abcdefghijklmnopqrstuvwxyz" {
			t.Errorf("%s wrote behind its argument: %q", name, room)
		}
		b[0] = 'X'
		if got[0] != 'a' {
			t.Errorf("%s shares its argument's memory", name)
		}
	}
}

// readCase is bytes, what reads them, and what comes of it.
type readCase struct {
	name string
	b    []byte
	read func(*Reader) any
	want any
	end  api.Errno
	left int
}

func readUint(r *Reader) any { return r.Uint() }
func readInt(r *Reader) any  { return r.Int() }
func readText(r *Reader) any { return r.Text() }

func readCount(least int) func(*Reader) any {
	return func(r *Reader) any { return r.Count(least) }
}

func checkReads(t *testing.T, cases []readCase) {
	t.Helper()
	for _, c := range cases {
		before := bytes.Clone(c.b)
		r := Read(c.b)
		if got := c.read(r); got != c.want || r.End() != c.end || r.Left() != c.left {
			t.Errorf("%s: %v, %v, %d left", c.name, got, r.End(), r.Left())
		}
		if !bytes.Equal(before, c.b) {
			t.Errorf("%s: the bytes were changed", c.name)
		}
	}
}

// runs is so many bytes c, and what comes behind them.
func runs(n int, c byte, behind ...byte) []byte {
	return append(bytes.Repeat([]byte{c}, n), behind...)
}

// TestReadNumbers: P1.2, numbers and what is none.
func TestReadNumbers(t *testing.T) {
	checkReads(t, []readCase{
		{"one byte", []byte{127}, readUint, uint64(127), api.OK, 0},
		{"a single 0", []byte{0}, readUint, uint64(0), api.OK, 0},
		{"two bytes", []byte{172, 2}, readUint, uint64(300), api.OK, 0},
		{"a byte behind it", []byte{172, 2, 7}, readUint, uint64(300), api.ErrForm, 1},
		{"a middle byte of 128", []byte{128, 128, 1}, readUint, uint64(1 << 14), api.OK, 0},
		{"nothing", nil, readUint, uint64(0), api.ErrShort, 0},
		{"an early end", []byte{128}, readUint, uint64(0), api.ErrShort, 0},
		{"an early end behind nine bytes", runs(9, 255), readUint, uint64(0), api.ErrShort, 0},
		{"a last byte 0", []byte{128, 0}, readUint, uint64(0), api.ErrForm, 0},
		{"a last byte 0, others behind it", []byte{255, 255, 0, 1, 1}, readUint, uint64(0), api.ErrForm, 0},
		{"all 64 bits", runs(9, 255, 1), readUint, uint64(math.MaxUint64), api.OK, 0},
		{"the highest bit", runs(9, 128, 1), readUint, uint64(1 << 63), api.OK, 0},
		{"a tenth byte 0", runs(9, 128, 0), readUint, uint64(0), api.ErrForm, 0},
		{"a tenth byte 2", runs(9, 128, 2), readUint, uint64(0), api.ErrForm, 0},
		{"a tenth byte 128, where the bytes end", runs(10, 128), readUint, uint64(0), api.ErrForm, 0},
		{"a tenth byte 129", runs(9, 255, 129, 0), readUint, uint64(0), api.ErrForm, 0},
		{"eleven bytes", runs(10, 129, 1), readUint, uint64(0), api.ErrForm, 0},
		{"below 0", []byte{3}, readInt, int64(-2), api.OK, 0},
		{"the least number", runs(9, 255, 1), readInt, int64(math.MinInt64), api.OK, 0},
		{"the greatest number", append([]byte{254}, runs(8, 255, 1)...), readInt, int64(math.MaxInt64), api.OK, 0},
		{"a number with a last byte 0", []byte{129, 0}, readInt, int64(0), api.ErrForm, 0},
		{"no number", nil, readInt, int64(0), api.ErrShort, 0},
	})
}

// TestReadTexts: P1.2, texts that end too early, and whose lengths are none.
func TestReadTexts(t *testing.T) {
	checkReads(t, []readCase{
		{"a text", []byte{2, 'a', 'b', 1}, readText, "ab", api.ErrForm, 1},
		{"an empty one", []byte{0}, readText, "", api.OK, 0},
		{"none", nil, readText, "", api.ErrShort, 0},
		{"no bytes of it", []byte{5}, readText, "", api.ErrShort, 0},
		{"a byte too few", []byte{3, 'a', 'b'}, readText, "", api.ErrShort, 0},
		{"far too few", append(runs(9, 255, 1), 'a'), readText, "", api.ErrShort, 0},
		{"a length with a last byte 0", []byte{129, 0, 'a'}, readText, "", api.ErrForm, 0},
	})
}

// TestReadCounts: P1.2, counts held against what is left.
func TestReadCounts(t *testing.T) {
	checkReads(t, []readCase{
		{"all that is left", []byte{3, 1, 1, 1}, readCount(1), 3, api.ErrForm, 3},
		{"one more", []byte{4, 1, 1, 1}, readCount(1), 0, api.ErrShort, 0},
		{"none", []byte{0}, readCount(1), 0, api.OK, 0},
		{"none of the greatest", []byte{0}, readCount(math.MaxInt), 0, api.OK, 0},
		{"least 0 is 1", []byte{3, 1, 1, 1}, readCount(0), 3, api.ErrForm, 3},
		{"least 0 is 1, one more", []byte{4, 1, 1, 1}, readCount(0), 0, api.ErrShort, 0},
		{"least below 0 is 1", []byte{3, 1, 1, 1}, readCount(-7), 3, api.ErrForm, 3},
		{"least below 0 is 1, one more", []byte{4, 1, 1, 1}, readCount(math.MinInt), 0, api.ErrShort, 0},
		{"twos that just fit", []byte{2, 1, 1, 1, 1}, readCount(2), 2, api.ErrForm, 4},
		{"twos with one byte left over", []byte{2, 1, 1, 1, 1, 1}, readCount(2), 2, api.ErrForm, 5},
		{"twos with one byte too few", []byte{2, 1, 1, 1}, readCount(2), 0, api.ErrShort, 0},
		{"a product that turns round", append(runs(9, 128, 1), 1, 1), readCount(2), 0, api.ErrShort, 0},
		{"a great least", []byte{2, 1, 1}, readCount(1 << 62), 0, api.ErrShort, 0},
		{"a number above all ints", runs(9, 255, 1, 1), readCount(1), 0, api.ErrShort, 0},
		{"no number", []byte{128, 0, 1}, readCount(1), 0, api.ErrForm, 0},
		{"nothing", nil, readCount(1), 0, api.ErrShort, 0},
	})
}

// TestBehindAnError: P1.2, the first error stays, and nothing is read any more.
func TestBehindAnError(t *testing.T) {
	first := map[string]struct {
		b    []byte
		read func(*Reader) any
		want api.Errno
	}{
		"form":  {[]byte{128, 0, 1, 1, 1, 1}, readUint, api.ErrForm},
		"short": {[]byte{9, 1, 1, 1, 1}, readText, api.ErrShort},
		"count": {[]byte{9, 1, 1, 1, 1}, readCount(1), api.ErrShort},
	}
	for name, c := range first {
		r := Read(c.b)
		c.read(r)
		for range 2 {
			if r.Uint() != 0 || r.Int() != 0 || r.Text() != "" || r.Count(1) != 0 || r.Left() != 0 || r.End() != c.want {
				t.Errorf("%s: %v, %d left", name, r.End(), r.Left())
			}
		}
	}
}

// TestGoesOn: P1.2, one thing behind the other; to ask for the end ends nothing.
func TestGoesOn(t *testing.T) {
	b := Int(Text(Uint(nil, 1<<40), "hi"), -9)
	r := Read(b)
	if r.Left() != len(b) || r.End() != api.ErrForm {
		t.Errorf("%d left, %v", r.Left(), r.End())
	}
	if n, s, k := r.Uint(), r.Text(), r.Int(); n != 1<<40 || s != "hi" || k != -9 || r.Left() != 0 || r.End() != api.OK {
		t.Errorf("%d, %q, %d, %d left, %v", n, s, k, r.Left(), r.End())
	}
	if r.Uint() != 0 || r.End() != api.ErrShort {
		t.Errorf("behind the end: %v", r.End())
	}
}

// TestTextStays: P1.2, a text that was read isn't changed with the bytes.
func TestTextStays(t *testing.T) {
	b := []byte{2, 'a', 'b'}
	s := Read(b).Text()
	b[1] = 'X'
	if s != "ab" {
		t.Errorf("%q", s)
	}
}

// TestNilReader: P1.2, a nil Reader, and readers of nothing.
func TestNilReader(t *testing.T) {
	var r *Reader
	if r.Uint() != 0 || r.Int() != 0 || r.Text() != "" || r.Count(1) != 0 || r.Count(-1) != 0 || r.Left() != 0 || r.End() != api.ErrArg {
		t.Errorf("a nil reader: %v", r.End())
	}
	for _, r := range []*Reader{Read(nil), Read([]byte{}), {}} {
		if r.Left() != 0 || r.End() != api.OK {
			t.Errorf("a reader of nothing: %d, %v", r.Left(), r.End())
		}
	}
}
