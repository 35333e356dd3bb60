package wire

import (
	"bytes"
	"math"
	"reflect"
	"strings"
	"testing"

	"gristmill/api"
)

// fullMessage has something else in each field.
func fullMessage() api.Msg {
	kid := api.Filter{Kind: api.FilterIs, Dim: 1, Texts: []string{"p", ""}, Lo: -1, Hi: 2}
	return api.Msg{
		Kind: 1, From: 2, To: -3, Id: 4, Ask: 300, Offset: math.MaxUint64, Term: 7, Count: 8, Code: api.ErrNone,
		Fact: api.Fact{Time: 10, Dims: []string{"a", "bc"}, Meas: []int64{-11, 12}},
		Query: api.Query{
			Span:   api.Span{From: 13, To: 14},
			Filter: api.Filter{Kind: 15, Dim: 16, Texts: []string{"t"}, Lo: 17, Hi: 18, Kids: []api.Filter{kid, {}}},
			Grain:  19, Sets: [][]int{{20, 21}, nil, {22}}, Aggs: []api.Agg{{Kind: 23, Col: 24}}, Groups: 25, Rows: 26,
		},
		Piece:  api.Piece{Seg: api.Seg{Span: api.Span{From: 27, To: 28}, Version: 29, Part: 30, Core: 31}, Span: api.Span{From: 32, To: 33}},
		Order:  api.Order{Drop: true, Seg: api.Seg{Span: api.Span{From: 34, To: 35}, Version: 36, Part: 37, Core: 38}, Node: 39},
		Segs:   []api.Seg{{Span: api.Span{From: 40, To: 41}, Version: 42, Part: 43, Core: 44}, {}},
		Groups: []api.Group{{Key: api.Key{Set: 45, Bucket: 46, Dims: []string{"k"}}, Parts: []api.Partial{{N: 47, V: -48, Texts: []string{"z"}}, {}}}},
	}
}

// fullBytes are fullMessage's, laid by hand.
func fullBytes() []byte {
	parts := [][]byte{
		{2, 4, 5, 4, 172, 2}, runs(9, 255, 1), {14, 8, 240, 1}, // Kind to Code
		{20, 2, 1, 'a', 2, 'b', 'c', 2, 21, 24},               // Fact
		{26, 28},                                              // Query.Span
		{30, 32, 1, 1, 't', 34, 36, 2},                        // Query.Filter
		{10, 2, 2, 1, 'p', 0, 1, 4, 0},                        // its first kid
		{0, 0, 0, 0, 0, 0},                                    // its second kid
		{38, 3, 2, 40, 42, 0, 1, 44, 1, 46, 48, 50, 52},       // Grain to Rows
		{54, 56, 58, 60, 62, 64, 66},                          // Piece
		{1, 68, 70, 72, 74, 76, 78},                           // Order
		{2, 80, 82, 84, 86, 88, 0, 0, 0, 0, 0},                // Segs
		{1, 90, 92, 1, 1, 'k', 2, 47, 95, 1, 1, 'z', 0, 0, 0}, // Groups
	}
	return bytes.Join(parts, nil)
}

// emptyLength is how many bytes the empty message has: of its numbers, Fact, Query, Piece, Order, Segs and Groups.
const emptyLength = 9 + 3 + 13 + 7 + 7 + 1 + 1

// kidsPlace is where the count of the kids of a filter's first level stands in an empty message's bytes.
const kidsPlace = 9 + 3 + 2 + 5

// deep is a message whose filter has that depth.
func deep(depth int) api.Msg {
	m := api.Msg{}
	for range depth - 1 {
		m.Query.Filter = api.Filter{Kind: api.FilterNot, Kids: []api.Filter{m.Query.Filter}}
	}
	return m
}

// deepBytes are the bytes of a message whose filter has that depth, however great.
func deepBytes(depth int) []byte {
	out := make([]byte, kidsPlace)
	for range depth - 1 {
		out = append(out, 1, 0, 0, 0, 0, 0)
	}
	return append(out, make([]byte, emptyLength-kidsPlace)...)
}

// sized is a message of just so many bytes.
func sized(n int) api.Msg {
	text := n - emptyLength - len(plainUint(uint64(n)))
	return api.Msg{Fact: api.Fact{Dims: []string{strings.Repeat("m", text)}}}
}

// TestPut: P1.4, a message's bytes are just those of the document.
func TestPut(t *testing.T) {
	b, e := Put(fullMessage())
	if e != api.OK || !bytes.Equal(b, fullBytes()) {
		t.Errorf("%v\n%v\n%v", e, b, fullBytes())
	}
	b, e = Put(api.Msg{})
	if e != api.OK || !bytes.Equal(b, make([]byte, emptyLength)) {
		t.Errorf("of the empty message: %v, %d: %v", e, len(b), b)
	}
}

// TestGet: P1.4 and P1.5, what was written is read as it was.
func TestGet(t *testing.T) {
	extreme := api.Msg{Kind: math.MinInt, From: math.MaxInt, Id: math.MaxUint64, Code: -1, Fact: api.Fact{Time: math.MinInt64, Meas: []int64{math.MaxInt64}}}
	extreme.Order.Drop = true
	for _, m := range []api.Msg{{}, fullMessage(), extreme, deep(api.MaxDepth), sized(api.MaxBytes)} {
		b, e := Put(m)
		got, f := Get(b)
		if e != api.OK || f != api.OK || !reflect.DeepEqual(got, m) {
			t.Errorf("%v, %v, %d bytes, kind %d", e, f, len(b), m.Kind)
		}
	}
}

// TestEmptyLists: P1.4, nil and empty lists are one.
func TestEmptyLists(t *testing.T) {
	m := api.Msg{Segs: []api.Seg{}, Groups: []api.Group{}, Fact: api.Fact{Dims: []string{}, Meas: []int64{}}}
	m.Query = api.Query{Sets: [][]int{}, Aggs: []api.Agg{}, Filter: api.Filter{Texts: []string{}, Kids: []api.Filter{}}}
	b, e := Put(m)
	if e != api.OK || !bytes.Equal(b, make([]byte, emptyLength)) {
		t.Errorf("%v, %v", e, b)
	}
}

// TestDepth: P1.4, filters of depth MaxDepth and of one more.
func TestDepth(t *testing.T) {
	b, e := Put(deep(api.MaxDepth))
	if e != api.OK || len(b) != len(deepBytes(api.MaxDepth)) {
		t.Errorf("Put of depth MaxDepth: %v", e)
	}
	if _, e := Get(deepBytes(api.MaxDepth)); e != api.OK {
		t.Errorf("Get of depth MaxDepth: %v", e)
	}
	for _, depth := range []int{api.MaxDepth + 1, api.MaxDepth + 2, 1 << 16} {
		if b, e := Put(deep(depth)); e != api.ErrArg || b != nil {
			t.Errorf("Put of depth %d: %v", depth, e)
		}
		if m, e := Get(deepBytes(depth)); e != api.ErrForm || !reflect.DeepEqual(m, api.Msg{}) {
			t.Errorf("Get of depth %d: %v", depth, e)
		}
	}
}

// TestDepthAside: P1.4, a filter that is too deep at its last kid alone.
func TestDepthAside(t *testing.T) {
	m := api.Msg{}
	m.Query.Filter.Kids = []api.Filter{{}, {Kids: []api.Filter{{}}}, deep(api.MaxDepth - 1).Query.Filter}
	if _, e := Put(m); e != api.OK {
		t.Errorf("just deep enough: %v", e)
	}
	m.Query.Filter.Kids[2] = deep(api.MaxDepth).Query.Filter
	if _, e := Put(m); e != api.ErrArg {
		t.Errorf("too deep: %v", e)
	}
}

// TestDepthPlace: P1.4, a filter is refused at its first byte that is too deep, and not ahead of it.
func TestDepthPlace(t *testing.T) {
	b := deepBytes(api.MaxDepth + 1)
	first := kidsPlace + 6*(api.MaxDepth-1) + 1
	if _, e := Get(b[:first]); e != api.ErrShort {
		t.Errorf("ahead of the byte: %v", e)
	}
	if _, e := Get(b[:first+1]); e != api.ErrForm {
		t.Errorf("with the byte: %v", e)
	}
	b[first] = 128
	if _, e := Get(b[:first+1]); e != api.ErrForm {
		t.Errorf("with a byte that begins a number: %v", e)
	}
}

// TestHeldByItself: a filter that holds itself is refused, and no more than that.
func TestHeldByItself(t *testing.T) {
	kids := make([]api.Filter, 2)
	kids[0].Kids = kids
	kids[1].Kids = kids
	m := api.Msg{Query: api.Query{Filter: api.Filter{Kids: kids}}}
	if _, e := Put(m); e != api.ErrArg {
		t.Errorf("%v", e)
	}
	wide := []api.Filter{}
	for range api.MaxDepth - 1 {
		wide = []api.Filter{{Kids: wide}, {Kids: wide}, {Kids: wide}, {Kids: wide}}
	}
	m.Query.Filter.Kids = wide
	if _, e := Put(m); e != api.ErrArg {
		t.Errorf("of 4^19 kids: %v", e)
	}
}

// endsInText is a message of just so many bytes, of which the last ones are a text's.
func endsInText(n int) api.Msg {
	text := n - emptyLength - 7 - len(plainUint(uint64(n))) // a group with one partial has 7 bytes, and its text
	return api.Msg{Groups: []api.Group{{Parts: []api.Partial{{Texts: []string{strings.Repeat("e", text)}}}}}}
}

// TestSizes: P1.4, messages of MaxBytes bytes and of one byte more.
func TestSizes(t *testing.T) {
	for at, of := range []func(int) api.Msg{sized, endsInText} {
		b, e := Put(of(api.MaxBytes))
		if e != api.OK || len(b) != api.MaxBytes {
			t.Errorf("%d: Put of MaxBytes: %v, %d", at, e, len(b))
		}
		if b, e := Put(of(api.MaxBytes + 1)); e != api.ErrArg || b != nil {
			t.Errorf("%d: Put of one byte more: %v, %d", at, e, len(b))
		}
	}
	last := sized(api.MaxBytes)
	last.Groups = []api.Group{{}}
	if _, e := Put(last); e != api.ErrArg {
		t.Errorf("Put of a group more: %v", e)
	}
	if _, e := Put(api.Msg{Fact: api.Fact{Meas: make([]int64, api.MaxBytes)}}); e != api.ErrArg {
		t.Errorf("Put of many numbers: %v", e)
	}
}

// longBytes are the bytes of a message whose only text has so many bytes.
func longBytes(text int) []byte {
	b := append(make([]byte, 10), 1)
	b = Text(b, strings.Repeat("m", text))
	return append(b, make([]byte, emptyLength-11)...)
}

// TestGetTooLong: P1.4, bytes above MaxBytes are refused, behind what is wrong ahead of that.
func TestGetTooLong(t *testing.T) {
	text := api.MaxBytes - emptyLength - 3
	if b := longBytes(text); len(b) != api.MaxBytes {
		t.Fatalf("%d bytes", len(b))
	}
	if _, e := Get(longBytes(text)); e != api.OK {
		t.Errorf("of MaxBytes: %v", e)
	}
	b := longBytes(text + 1)
	if m, e := Get(b); e != api.ErrForm || !reflect.DeepEqual(m, api.Msg{}) {
		t.Errorf("of one byte more: %v", e)
	}
	if _, e := Get(longBytes(text + 100)[:api.MaxBytes+1]); e != api.ErrShort {
		t.Errorf("too long, and cut: %v", e)
	}
}

// TestCut: P1.4, every message that ends too early.
func TestCut(t *testing.T) {
	b := fullBytes()
	for n := range b {
		if m, e := Get(b[:n]); e != api.ErrShort || !reflect.DeepEqual(m, api.Msg{}) {
			t.Errorf("the first %d bytes: %v", n, e)
		}
	}
}

// TestBehind: P1.4, bytes that are left behind a message.
func TestBehind(t *testing.T) {
	for _, behind := range []byte{0, 1, 255} {
		if m, e := Get(append(fullBytes(), behind)); e != api.ErrForm || !reflect.DeepEqual(m, api.Msg{}) {
			t.Errorf("%d behind it: %v", behind, e)
		}
	}
}

// TestTrueFalse: P1.4, a byte that says neither true nor false.
func TestTrueFalse(t *testing.T) {
	empty := make([]byte, emptyLength)
	place := emptyLength - 9
	for c := range 256 {
		b := bytes.Clone(empty)
		b[place] = byte(c)
		m, e := Get(b)
		if c < 2 && (e != api.OK || m.Order.Drop != (c == 1)) || c >= 2 && e != api.ErrForm {
			t.Errorf("%d: %v, %v", c, m.Order.Drop, e)
		}
	}
	if _, e := Get(append(bytes.Clone(empty[:place]), 128)); e != api.ErrForm {
		t.Errorf("128, where the bytes end: %v", e)
	}
}

// TestCounts: P1.4, lists are asked by Count(1); the first error from the left is told.
func TestCounts(t *testing.T) {
	cases := []struct {
		name string
		b    []byte
		want api.Errno
	}{
		{"as many dimensions as bytes are left, the first one no text", append(make([]byte, 10), 2, 128, 0), api.ErrForm},
		{"more dimensions than bytes are left", append(make([]byte, 10), 3, 128, 0), api.ErrShort},
		{"a count with a last byte 0", append(make([]byte, 10), 128, 0), api.ErrForm},
		{"a count of all 64 bits", append(make([]byte, 10), runs(9, 255, 1)...), api.ErrShort},
		{"a first field that is none, and nothing behind it", []byte{128, 0}, api.ErrForm},
		{"nothing", nil, api.ErrShort},
	}
	for _, c := range cases {
		if m, e := Get(c.b); e != c.want || !reflect.DeepEqual(m, api.Msg{}) {
			t.Errorf("%s: %v", c.name, e)
		}
	}
}

// TestNothingElse: P1.5, whatever is read is written as the very bytes.
func TestNothingElse(t *testing.T) {
	read := 0
	try := func(b []byte) {
		m, e := Get(b)
		if e != api.OK {
			if !reflect.DeepEqual(m, api.Msg{}) {
				t.Errorf("%v with %+v", e, m)
			}
			return
		}
		read++
		if again, e := Put(m); e != api.OK || !bytes.Equal(again, b) {
			t.Errorf("%v was read, and written as %v, %v", b, again, e)
		}
	}
	good := fullBytes()
	for at := range good {
		for c := range 256 {
			b := bytes.Clone(good)
			b[at] = byte(c)
			try(b)
		}
		for _, c := range []byte{0, 1, 2, 128, 255} {
			try(append(append(bytes.Clone(good[:at]), c), good[at:]...))
		}
		try(append(bytes.Clone(good[:at]), good[at+1:]...))
	}
	if read < 1000 {
		t.Errorf("only %d were read", read)
	}
}

// TestMessageMemory: a message that was read shares nothing with its bytes, nor bytes with their message.
func TestMessageMemory(t *testing.T) {
	m := fullMessage()
	b, _ := Put(m)
	if !reflect.DeepEqual(m, fullMessage()) {
		t.Error("Put changed its message")
	}
	got, _ := Get(b)
	if !bytes.Equal(b, fullBytes()) {
		t.Error("Get changed its bytes")
	}
	for at := range b {
		b[at] = 255
	}
	if !reflect.DeepEqual(got, fullMessage()) {
		t.Error("the message shares the bytes' memory")
	}
}
