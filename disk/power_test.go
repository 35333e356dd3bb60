package disk

import (
	"math"
	"testing"

	"gristmill/api"
)

// TestCut: P12.4, parts below 0, of 0, of less than, just as many as and more than what isn't synced, of several files.
func TestCut(t *testing.T) {
	for _, c := range []struct {
		part       int
		a, b, none string
	}{
		{math.MinInt, "xy", "", ""},
		{-1, "xy", "", ""},
		{0, "xy", "", ""},
		{1, "xyz", "p", ""},
		{2, "xyz", "pq", ""},
		{3, "xyz", "pqr", ""},
		{4, "xyz", "pqr", ""},
		{1 << 40, "xyz", "pqr", ""},
		{math.MaxInt, "xyz", "pqr", ""},
	} {
		d := New()
		expectOK(t, d.Append("a", []byte("xy")), d.Sync("a"), d.Append("a", []byte("z")))
		expectOK(t, d.Append("b", []byte("p")), d.Append("b", []byte("qr")), d.Append("none", nil))
		expectOK(t, d.Append("all", []byte("12")), d.Sync("all"))
		d.Cut(c.part)
		if !d.Off() {
			t.Fatalf("Cut %d: the power is on", c.part)
		}
		expectOps(t, d, 8)
		d.On()
		for range 2 {
			// What stayed was synced, so a second cut takes nothing.
			expectFile(t, d, "a", c.a)
			expectFile(t, d, "b", c.b)
			expectFile(t, d, "none", c.none)
			expectFile(t, d, "all", "12")
			expectList(t, d, "", "a", "all", "b", "none")
			d.Cut(0)
			d.On()
		}
		expectOps(t, d, 8)
	}
}

// TestCutOff: P12.4, a cut with the power off already does nothing.
func TestCutOff(t *testing.T) {
	for _, part := range []int{-1, 0, 1, 9} {
		d := sample(t)
		d.Cut(2)
		d.Cut(part)
		if !d.Off() {
			t.Fatalf("the power is on")
		}
		d.On()
		expectFile(t, d, "a", "xy")
		expectFile(t, d, "b", "pq")
	}
}

// TestCutAgain: P12.4, behind a first cut what is appended then is what isn't synced.
func TestCutAgain(t *testing.T) {
	d := sample(t)
	d.Cut(2)
	d.On()
	expectOK(t, d.Append("a", []byte("12")), d.Append("b", []byte("34")))
	expectFile(t, d, "b", "pq34")
	d.Cut(1)
	d.On()
	expectFile(t, d, "a", "xy1")
	expectFile(t, d, "b", "pq3")
	expectOK(t, d.Append("b", []byte("5")), d.Rename("b", "a"))
	d.Cut(-1)
	d.On()
	expectFile(t, d, "a", "pq3")
	expectList(t, d, "", "a")
}

// TestOff: P12.4, Off and On at any time, also where the power is on, or off, already.
func TestOff(t *testing.T) {
	d := sample(t)
	d.On()
	if d.Off() || d.Off() {
		t.Fatalf("the power is off")
	}
	expectUnchanged(t, d)
	d.Cut(0)
	d.Cut(0)
	if !d.Off() || !d.Off() {
		t.Fatalf("the power is on")
	}
	d.On()
	d.On()
	if d.Off() {
		t.Fatalf("the power is off")
	}
	expectOK(t, d.Append("a", []byte("z")))
	d.On()
	expectFile(t, d, "a", "xz")
}

// TestCutAt: P12.4, at each kind of operation: not done, ErrPower, counted; of an Append a part of its bytes comes, and the file.
func TestCutAt(t *testing.T) {
	for _, c := range []struct {
		word, name, to, b string
		part              int
		want              []plainFile
	}{
		{"append", "a", "", "12", -1, []plainFile{{"a", "x", ""}, {"b", "", ""}}},
		{"append", "a", "", "12", 0, []plainFile{{"a", "x", ""}, {"b", "", ""}}},
		{"append", "a", "", "12", 1, []plainFile{{"a", "xy", ""}, {"b", "p", ""}}},
		{"append", "a", "", "12", 2, []plainFile{{"a", "xy1", ""}, {"b", "pq", ""}}},
		{"append", "a", "", "12", 3, []plainFile{{"a", "xy12", ""}, {"b", "pqr", ""}}},
		{"append", "a", "", "12", math.MaxInt, []plainFile{{"a", "xy12", ""}, {"b", "pqr", ""}}},
		{"append", "c", "", "12", math.MinInt, []plainFile{{"a", "x", ""}, {"b", "", ""}, {"c", "", ""}}},
		{"append", "c", "", "12", 0, []plainFile{{"a", "x", ""}, {"b", "", ""}, {"c", "", ""}}},
		{"append", "c", "", "12", 1, []plainFile{{"a", "xy", ""}, {"b", "p", ""}, {"c", "1", ""}}},
		{"append", "c", "", "12", 2, []plainFile{{"a", "xy", ""}, {"b", "pq", ""}, {"c", "12", ""}}},
		{"append", "c", "", "", 9, []plainFile{{"a", "xy", ""}, {"b", "pqr", ""}, {"c", "", ""}}},
		{"sync", "a", "", "", 0, []plainFile{{"a", "x", ""}, {"b", "", ""}}},
		{"sync", "b", "", "", 0, []plainFile{{"a", "x", ""}, {"b", "", ""}}},
		{"sync", "b", "", "", 2, []plainFile{{"a", "xy", ""}, {"b", "pq", ""}}},
		{"rename", "a", "b", "", 0, []plainFile{{"a", "x", ""}, {"b", "", ""}}},
		{"rename", "a", "c", "", 1, []plainFile{{"a", "xy", ""}, {"b", "p", ""}}},
		{"rename", "b", "b", "", 2, []plainFile{{"a", "xy", ""}, {"b", "pq", ""}}},
		{"remove", "a", "", "", 0, []plainFile{{"a", "x", ""}, {"b", "", ""}}},
		{"remove", "b", "", "", 9, []plainFile{{"a", "xy", ""}, {"b", "pqr", ""}}},
	} {
		d := sample(t)
		d.CutAt(sampleOps, c.part)
		if d.Off() {
			t.Fatalf("the power is off too early")
		}
		expectCode(t, c.word, do(d, c.word, c.name, c.to, c.b), api.ErrPower)
		p := &plainDisk{files: c.want, ops: sampleOps + 1, off: true}
		expectPlain(t, d, p)
		expectCode(t, "the next call", d.Append("d", nil), api.ErrPower)
		d.On()
		p.off = false
		expectPlain(t, d, p)
		// What stayed was synced, and the cut came once.
		d.Cut(0)
		d.On()
		expectPlain(t, d, p)
		expectOK(t, do(d, c.word, c.name, c.to, c.b))
	}
}

// TestCutAtNever: P12.4, one whose op was counted already, or is below 0, never comes to be, and takes the place of the last one.
func TestCutAtNever(t *testing.T) {
	for _, op := range []int{math.MinInt, -1, 0, sampleOps - 1, math.MaxInt} {
		d := sample(t)
		d.CutAt(sampleOps, 0)
		d.CutAt(op, 0)
		for range 20 {
			expectOK(t, d.Append("a", []byte("z")), d.Sync("a"), d.Rename("a", "c"), d.Rename("c", "a"), d.Append("d", nil), d.Remove("d"))
		}
		expectOps(t, d, sampleOps+120)
	}
	d := New()
	d.CutAt(-1, 0)
	expectOK(t, d.Append("a", nil))
}

// TestCutAtFirst: P12.4, operations are numbered from 0 on.
func TestCutAtFirst(t *testing.T) {
	d := New()
	d.CutAt(0, 1)
	expectCode(t, "Append", d.Append("a", []byte("xy")), api.ErrPower)
	expectOps(t, d, 1)
	d.On()
	expectFile(t, d, "a", "x")
	expectOK(t, d.Sync("a"))
}

// TestCutAtAhead: P12.4, those ahead of the operation are done.
func TestCutAtAhead(t *testing.T) {
	d := New()
	d.CutAt(50, 1)
	for range 50 {
		expectOK(t, d.Append("a", []byte("x")))
	}
	expectOK(t, do(d, "read", "a", "", ""))
	expectCode(t, "the operation 50", d.Sync("a"), api.ErrPower)
	expectOps(t, d, 51)
	d.On()
	expectFile(t, d, "a", "x")
}

// TestCutAtTwice: P12.4, the last one alone counts, with its part.
func TestCutAtTwice(t *testing.T) {
	d := sample(t)
	d.CutAt(sampleOps, 0)
	d.CutAt(sampleOps+1, 3)
	d.CutAt(sampleOps+1, 2)
	expectOK(t, d.Sync("a"))
	expectCode(t, "Sync b", d.Sync("b"), api.ErrPower)
	d.On()
	expectFile(t, d, "b", "pq")
	d.CutAt(sampleOps+9, 0)
	d.CutAt(sampleOps+2, 0)
	expectCode(t, "Sync b again", d.Sync("b"), api.ErrPower)
	d.On()
	for range 9 {
		expectOK(t, d.Sync("b"))
	}
}

// TestCutAtOff: P12.4, with the power off CutAt counts, too, and what is refused then is no operation.
func TestCutAtOff(t *testing.T) {
	d := sample(t)
	d.Cut(9)
	d.CutAt(sampleOps, 1)
	expectOps(t, d, sampleOps)
	for _, word := range words {
		expectCode(t, word, do(d, word, "a", "c", "12"), api.ErrPower)
	}
	expectOps(t, d, sampleOps)
	d.On()
	if d.Off() {
		t.Fatalf("the power is off")
	}
	expectFile(t, d, "a", "xy")
	expectCode(t, "Append", d.Append("a", []byte("12")), api.ErrPower)
	expectOps(t, d, sampleOps+1)
	d.On()
	expectFile(t, d, "a", "xy1")
	expectOK(t, d.Remove("a"))
}

// TestCutAtRefused: P12.4, an operation that is refused isn't the one numbered so.
func TestCutAtRefused(t *testing.T) {
	d := sample(t)
	d.CutAt(sampleOps, 1)
	for _, word := range words[1:] {
		expectCode(t, word, do(d, word, "none", "c", ""), api.ErrNone)
	}
	for _, word := range words {
		expectCode(t, word, do(d, word, "", "c", ""), api.ErrArg)
	}
	expectCode(t, "Rename", d.Rename("a", ""), api.ErrArg)
	expectFile(t, d, "b", "pqr")
	if d.Off() {
		t.Fatalf("the power is off")
	}
	expectOps(t, d, sampleOps)
	expectCode(t, "Remove", d.Remove("a"), api.ErrPower)
	expectOps(t, d, sampleOps+1)
}

// TestCutAheadOfCutAt: P12.4, a Cut is no operation, and the CutAt behind it still counts.
func TestCutAheadOfCutAt(t *testing.T) {
	d := sample(t)
	d.CutAt(sampleOps+1, 1)
	d.Cut(2)
	d.On()
	expectOK(t, d.Append("b", []byte("12")))
	d.Cut(0)
	d.Cut(9)
	d.On()
	expectOps(t, d, sampleOps+1)
	expectCode(t, "Append", d.Append("b", []byte("345")), api.ErrPower)
	d.On()
	expectFile(t, d, "a", "xy")
	expectFile(t, d, "b", "pq3")
	expectOps(t, d, sampleOps+2)
	expectOK(t, d.Append("b", nil))
}
