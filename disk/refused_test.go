package disk

import (
	"math"
	"strconv"
	"strings"
	"testing"

	"gristmill/api"
)

var words = []string{"append", "sync", "rename", "remove", "read"}

// wrongNames are names of 0 and 65 bytes, and with bytes that a name may not have, at its beginning, within it and at its end.
func wrongNames() []string {
	wrong := []string{"", strings.Repeat("n", 65), strings.Repeat("n", 1000), "a b", "é"}
	for c := range 256 {
		if c < 33 || c > 126 {
			one := string([]byte{byte(c)})
			wrong = append(wrong, one, one+"a", "a"+one, "a"+one+"a", strings.Repeat("n", 63)+one)
		}
	}
	return wrong
}

// expectUnchanged: behind a refusal sample is what it was: what it tells, what is synced of it, and which operation is the next one.
func expectUnchanged(t *testing.T, d *Disk) {
	t.Helper()
	p := plainSample()
	expectPlain(t, d, p)
	d.Cut(0)
	d.On()
	p.cut(0)
	p.off = false
	expectPlain(t, d, p)
}

// TestNames: P12.1, names of 1 and of 64 bytes, and each byte that a name may have, are ones.
func TestNames(t *testing.T) {
	names := []string{strings.Repeat("n", 64), strings.Repeat("!", 64), strings.Repeat("~", 64), "!~", "~!~"}
	for c := 33; c <= 126; c++ {
		names = append(names, string([]byte{byte(c)}))
	}
	for _, name := range names {
		d := New()
		expectOK(t, d.Append(name, []byte("x")), d.Sync(name), d.Rename(name, name))
		expectFile(t, d, name, "x")
		expectList(t, d, name, name)
		expectOK(t, d.Rename(name, "other"), d.Rename("other", name), d.Remove(name))
		expectNone(t, d, name, api.ErrNone)
		expectOps(t, d, 6)
	}
}

// TestWrongNames: P12.1, ErrArg of each call with a wrong name; of Rename with a wrong from, a wrong to, with both.
func TestWrongNames(t *testing.T) {
	for _, wrong := range wrongNames() {
		d := sample(t)
		for _, word := range words {
			expectCode(t, word+" of a wrong name", do(d, word, wrong, "c", "zz"), api.ErrArg)
		}
		expectCode(t, "Rename to a wrong name", d.Rename("a", wrong), api.ErrArg)
		expectCode(t, "Rename from and to wrong names", d.Rename(wrong, wrong), api.ErrArg)
		expectNone(t, d, wrong, api.ErrArg)
		expectUnchanged(t, d)
	}
}

// TestFirstError: P12.1, the power ahead of names, names ahead of files.
func TestFirstError(t *testing.T) {
	for _, wrong := range wrongNames() {
		d := sample(t)
		expectCode(t, "Rename of a file that isn't there to a wrong name", d.Rename("none", wrong), api.ErrArg)
		expectUnchanged(t, d)
		d = sample(t)
		d.Cut(math.MaxInt)
		for _, word := range words {
			expectCode(t, word+" of a wrong name, the power off", do(d, word, wrong, wrong, "zz"), api.ErrPower)
		}
		expectCode(t, "Rename to a wrong name, the power off", d.Rename("a", wrong), api.ErrPower)
		expectOps(t, d, sampleOps)
	}
}

// TestPowerOff: P12.1, ErrPower of each call while the power is off, whether the file is there or not.
func TestPowerOff(t *testing.T) {
	for _, name := range []string{"a", "b", "none"} {
		for _, word := range words {
			d := sample(t)
			d.Cut(math.MaxInt)
			for range 3 {
				expectCode(t, word+" with the power off", do(d, word, name, "c", "zz"), api.ErrPower)
			}
			expectNone(t, d, name, api.ErrPower)
			expectOps(t, d, sampleOps)
			d.On()
			expectFile(t, d, "a", "xy")
			expectFile(t, d, "b", "pqr")
			expectList(t, d, "", "a", "b")
		}
	}
}

// TestNoFile: P12.1, ErrNone of Sync, Rename, Remove and Read of a file that isn't there.
func TestNoFile(t *testing.T) {
	for _, name := range []string{"none", "A", "aa", "c", strings.Repeat("a", 64)} {
		d := sample(t)
		for _, word := range words[1:] {
			expectCode(t, word+" of no file", do(d, word, name, "b", ""), api.ErrNone)
			expectCode(t, word+" of no file", do(d, word, name, name, ""), api.ErrNone)
		}
		expectNone(t, d, name, api.ErrNone)
		expectUnchanged(t, d)
	}
	for _, word := range words[1:] {
		expectCode(t, word+" on a new disk", do(New(), word, "a", "a", ""), api.ErrNone)
	}
}

// full is a disk with as many files as may be.
func full(t *testing.T) *Disk {
	t.Helper()
	d := New()
	for n := range api.MaxFiles {
		expectOK(t, d.Append("f"+strconv.Itoa(n), []byte("x")))
	}
	return d
}

// TestFull: P12.1, Append at 1000 files: OK of a file that is there, ErrArg of one that isn't, till there are fewer.
func TestFull(t *testing.T) {
	d := full(t)
	names := d.List("")
	if len(names) != 1000 {
		t.Fatalf("%d files", len(names))
	}
	for _, b := range []string{"", "y"} {
		expectCode(t, "Append of one more", d.Append("more", []byte(b)), api.ErrArg)
	}
	expectNone(t, d, "more", api.ErrNone)
	expectList(t, d, "", names...)
	expectOps(t, d, 1000)
	expectOK(t, d.Append("f0", []byte("y")), d.Append("f999", nil))
	expectFile(t, d, "f0", "xy")
	expectOK(t, d.Rename("f1", "renamed"))
	expectCode(t, "Append behind a Rename", d.Append("f1", nil), api.ErrArg)
	expectOK(t, d.Rename("f2", "f3"), d.Append("f2", nil))
	expectCode(t, "Append of one more again", d.Append("more", nil), api.ErrArg)
	expectOK(t, d.Remove("f4"), d.Append("more", nil))
	expectCode(t, "Append of a file that was removed", d.Append("f4", nil), api.ErrArg)
	expectOps(t, d, 1007)
	d.Cut(0)
	expectCode(t, "Append of one more, the power off", d.Append("f4", nil), api.ErrPower)
	d.On()
	expectCode(t, "Append of one more behind a cut", d.Append("f4", nil), api.ErrArg)
	expectCode(t, "Append of a wrong name", d.Append("", nil), api.ErrArg)
	expectOps(t, d, 1007)
}

// TestFullCutAt: P12.1 and P12.4, an Append that is one file too many isn't the operation at which the power goes off.
func TestFullCutAt(t *testing.T) {
	d := full(t)
	d.CutAt(1000, 1)
	expectCode(t, "Append of one more", d.Append("more", []byte("yz")), api.ErrArg)
	if d.Off() {
		t.Fatalf("the power is off")
	}
	expectCode(t, "Append of a file that is there", d.Append("f7", []byte("yz")), api.ErrPower)
	expectOps(t, d, 1001)
	d.On()
	expectFile(t, d, "f7", "x")
	expectFile(t, d, "f8", "x")
	d.CutAt(1001, 2)
	expectCode(t, "Append of a file that is there", d.Append("f7", []byte("yzz")), api.ErrPower)
	d.On()
	expectFile(t, d, "f7", "xyz")
}

// TestNil: P12.1, of nil: ErrArg, nothing, false, 0, whatever was called ahead.
func TestNil(t *testing.T) {
	var d *Disk
	for _, name := range []string{"a", ""} {
		for _, word := range words {
			expectCode(t, word+" of nil", do(d, word, name, name, "x"), api.ErrArg)
		}
		expectNone(t, d, name, api.ErrArg)
		expectList(t, d, name)
		for _, n := range []int{-1, 0, 7} {
			d.CutAt(n, n)
			d.Cut(n)
		}
		if d.Off() || d.Ops() != 0 || d.List(name) != nil {
			t.Errorf("%v, %d, %q", d.Off(), d.Ops(), d.List(name))
		}
		d.On()
	}
}

// TestNotMade: a disk that New didn't make is one without files, and no call of it panics.
func TestNotMade(t *testing.T) {
	for _, word := range words[1:] {
		expectCode(t, word, do(&Disk{}, word, "a", "a", ""), api.ErrNone)
	}
	d := &Disk{}
	expectList(t, d, "")
	d.Cut(1)
	d.On()
	expectOK(t, d.Append("a", []byte("x")))
	expectFile(t, d, "a", "x")
	expectOps(t, d, 1)
}
