package blob

import (
	"strconv"
	"strings"
	"testing"

	"gristmill/api"
	"gristmill/disk"
)

// wrongNames are names of 0 and of more than 62 bytes, and with bytes that a name may not have, at its beginning, within it and at its end.
func wrongNames() []string {
	wrong := []string{"", "a b", "é", " "}
	for _, n := range []int{63, 64, 65, 66, 1000} {
		wrong = append(wrong, strings.Repeat("n", n))
	}
	for c := range 256 {
		if c < 33 || c > 126 {
			one := string([]byte{byte(c)})
			wrong = append(wrong, one, one+"a", "a"+one, "a"+one+"a", strings.Repeat("n", 61)+one)
		}
	}
	return wrong
}

// TestNames: P13.2 and P13.3, names of 1 and of 62 bytes, and each byte that a name may have, are ones.
func TestNames(t *testing.T) {
	names := []string{strings.Repeat("n", 62), strings.Repeat("!", 62), strings.Repeat("~", 62), strings.Repeat("n", 61), "!~", "~!~", "b.", "t.", "b.b.", "t.x"}
	for c := 33; c <= 126; c++ {
		names = append(names, string([]byte{byte(c)}))
	}
	for _, name := range names {
		d := disk.New()
		s := opened(t, d)
		expectNone(t, s, name, api.ErrNone)
		expectCode(t, "Delete", s.Delete(name), api.ErrNone)
		expectOK(t, s.Put(name, []byte("ab")))
		expectBlob(t, s, name, "ab")
		expectList(t, s, name)
		expectFiles(t, d, "b."+name, frame("ab"))
		expectOK(t, s.Delete(name))
		expectFiles(t, d)
		expectOps(t, d, 4)
	}
}

// TestWrongNames: P13.2 and P13.3, ErrArg of each call with a wrong name, and nothing is done, even if there are such files.
func TestWrongNames(t *testing.T) {
	d := lay(t, "b.", frame("ab"), "t.", "draft")
	s := opened(t, d)
	expectOK(t, d.Append("t.", []byte("draft")))
	for _, wrong := range wrongNames() {
		expectCode(t, "Put", s.Put(wrong, []byte("ab")), api.ErrArg)
		expectCode(t, "Put", s.Put(wrong, nil), api.ErrArg)
		expectNone(t, s, wrong, api.ErrArg)
		expectCode(t, "Delete", s.Delete(wrong), api.ErrArg)
	}
	expectList(t, s)
	expectFiles(t, d, "b.", frame("ab"), "t.", "draft")
	expectOps(t, d, 4)
}

// TestPut: P13.2, the frame is in the blob's file, and there is no draft; three operations.
func TestPut(t *testing.T) {
	d := disk.New()
	s := opened(t, d)
	bodies := []string{"", "\x00", "ab", "\xff\x00\xff", strings.Repeat("a", 127), strings.Repeat("b", 70000)}
	var files []string
	for at, body := range bodies {
		name := strconv.Itoa(at)
		expectOK(t, s.Put(name, []byte(body)))
		expectBlob(t, s, name, body)
		files = append(files, "b."+name, frame(body))
		expectFiles(t, d, files...)
		expectOps(t, d, 3*at+3)
	}
	d.Cut(0)
	d.On()
	expectFiles(t, d, files...)
	for at, body := range bodies {
		expectBlob(t, s, strconv.Itoa(at), body)
	}
}

// TestFrame: P13.2, the bytes of a file, written out.
func TestFrame(t *testing.T) {
	d := disk.New()
	expectOK(t, opened(t, d).Put("x", []byte("ab")))
	expectFiles(t, d, "b.x", ":ZP#\x02\x00\x00\x00ab")
}

// TestBytes: P13.2, bytes of none, nil or empty, of MaxBytes and of one more.
func TestBytes(t *testing.T) {
	d := disk.New()
	s := opened(t, d)
	expectOK(t, s.Put("nil", nil), s.Put("nil", []byte{}), s.Put("empty", []byte{}), s.Put("empty", nil))
	expectBlob(t, s, "nil", "")
	expectBlob(t, s, "empty", "")
	expectCode(t, "Put of others", s.Put("empty", []byte{0}), api.ErrTwice)
	great := []byte(strings.Repeat("0123456789abcdef", api.MaxBytes/16))
	expectOK(t, s.Put("great", great), s.Put("great", great), s.Put("less", great[1:]))
	expectBlob(t, s, "great", string(great))
	expectBlob(t, s, "less", string(great[1:]))
	expectOps(t, d, 12)
	for range 2 {
		more := append(great, 'x')
		expectCode(t, "Put of one more", s.Put("more", more), api.ErrArg)
		expectCode(t, "Put of one more", s.Put("great", more), api.ErrArg)
		expectCode(t, "Put of one more", s.Put("nil", more), api.ErrArg)
		expectCode(t, "Put of many more", s.Put("more", make([]byte, 3*api.MaxBytes)), api.ErrArg)
	}
	expectList(t, s, "empty", "great", "less", "nil")
	expectOps(t, d, 12)
}

// TestFirstError: P13.2 and P13.3, the power ahead of names and bytes, these ahead of what is there.
func TestFirstError(t *testing.T) {
	d := disk.New()
	s := opened(t, d)
	more := make([]byte, api.MaxBytes+1)
	expectOK(t, s.Put("x", []byte("ab")), d.Append("b.z", []byte("no frame")), d.Sync("b.z"))
	expectCode(t, "Put of too many bytes where the file is no frame", s.Put("z", more), api.ErrArg)
	d.Cut(0)
	for _, name := range append(wrongNames(), "x", "y", "z") {
		for _, b := range [][]byte{nil, []byte("ab"), []byte("c"), more} {
			expectCode(t, "Put", s.Put(name, b), api.ErrPower)
		}
		expectNone(t, s, name, api.ErrPower)
		expectCode(t, "Delete", s.Delete(name), api.ErrPower)
	}
	expectOps(t, d, 5)
	d.On()
	expectFiles(t, d, "b.x", frame("ab"), "b.z", "no frame")
}

// TestPutTwice: P13.2, OK of the same bytes, ErrTwice of others, and where the file is no frame: nothing is done, not even to a draft.
func TestPutTwice(t *testing.T) {
	d := lay(t, "b.x", frame("ab"), "b.broken", frame("ab")+"!", "b.empty", "", "b.short", frame("ab")[:9], "b.none", frame(""))
	s := opened(t, d)
	expectOK(t, d.Append("t.x", []byte("draft")), d.Append("t.broken", []byte("draft")))
	before := []string{"b.broken", frame("ab") + "!", "b.empty", "", "b.none", frame(""), "b.short", frame("ab")[:9], "b.x", frame("ab"), "t.broken", "draft", "t.x", "draft"}
	// A planned cut would come to be at the first operation.
	d.CutAt(7, 0)
	for range 2 {
		expectOK(t, s.Put("x", []byte("ab")), s.Put("none", nil))
		for _, other := range []string{"", "a", "b", "ba", "abc", "aB", "ab!", "\x00", frame("ab"), strings.Repeat("ab", 9)} {
			expectCode(t, "Put of others", s.Put("x", []byte(other)), api.ErrTwice)
		}
		expectCode(t, "Put of others", s.Put("none", []byte{0}), api.ErrTwice)
		for _, name := range []string{"broken", "empty", "short"} {
			for _, b := range []string{"ab", "ab!", "", frame("ab"), frame("ab") + "!"} {
				expectCode(t, "Put where the file is no frame", s.Put(name, []byte(b)), api.ErrTwice)
			}
		}
	}
	expectFiles(t, d, before...)
	expectOps(t, d, 7)
}

// TestPutWithDraft: P13.2, a draft that is there is removed first, whatever stands in it, by an operation of its own; that of another blob stays.
func TestPutWithDraft(t *testing.T) {
	for _, draft := range []string{"", "d", frame("ab"), frame("cd"), frame("ab")[:9], strings.Repeat("long", 99)} {
		d := disk.New()
		s := opened(t, d)
		expectOK(t, d.Append("t.x", []byte(draft)), d.Append("t.xx", []byte("other")), d.Append("t", []byte("others")))
		expectOK(t, s.Put("x", []byte("ab")))
		expectOps(t, d, 7)
		expectFiles(t, d, "b.x", frame("ab"), "t", "others", "t.xx", "other")
		expectBlob(t, s, "x", "ab")
	}
}

// cutPut is a Put of y with the power going off at one of its operations, and what stands in the draft then.
type cutPut struct {
	draft string // of others, nothing of it synced; none, if it is empty
	op    int
	left  func(part int) string
}

func cutPuts(body string) []cutPut {
	whole := func(int) string { return frame(body) }
	some := func(part int) string { return cutTo(frame(body), part) }
	old := func(part int) string { return cutTo("draft", part) }
	return []cutPut{
		{"", 0, some}, {"", 1, some}, {"", 2, whole},
		{"draft", 0, old}, {"draft", 1, some}, {"draft", 2, some}, {"draft", 3, whole},
	}
}

// TestPutCut: P13.2 and P13.4, the power goes off at each operation, with every part: ErrPower, and the blob isn't there, neither then nor behind Open.
func TestPutCut(t *testing.T) {
	for _, body := range []string{"", "ab", "a longer blob"} {
		for _, c := range cutPuts(body) {
			for part := -2; part < len(frame(body))+3; part++ {
				d := disk.New()
				s := opened(t, d)
				expectOK(t, s.Put("x", []byte("other")))
				if c.draft != "" {
					expectOK(t, d.Append("t.y", []byte(c.draft)))
				}
				ops := d.Ops() + c.op
				d.CutAt(ops, part)
				for range 2 {
					expectCode(t, "Put y", s.Put("y", []byte(body)), api.ErrPower)
					expectOps(t, d, ops+1)
				}
				d.On()
				expectFiles(t, d, "b.x", frame("other"), "t.y", c.left(part))
				expectNone(t, s, "y", api.ErrNone)
				expectList(t, s, "x")
				if part%2 == 0 {
					s = opened(t, d)
					expectFiles(t, d, "b.x", frame("other"))
					expectNone(t, s, "y", api.ErrNone)
				}
				expectOK(t, s.Put("y", []byte(body)))
				// The draft goes by one operation, either way.
				expectOps(t, d, ops+5)
				expectFiles(t, d, "b.x", frame("other"), "b.y", frame(body))
			}
		}
	}
}

// TestPutAheadOfCut: P13.4, a cut behind the last operation takes nothing of the blob.
func TestPutAheadOfCut(t *testing.T) {
	for part := -1; part < 12; part++ {
		d := disk.New()
		s := opened(t, d)
		d.CutAt(3, part)
		expectOK(t, s.Put("y", []byte("ab")))
		expectCode(t, "Put z", s.Put("z", []byte("cd")), api.ErrPower)
		d.On()
		s = opened(t, d)
		expectList(t, s, "y")
		expectBlob(t, s, "y", "ab")
	}
}

// TestGreatCut: P13.4, a blob of MaxBytes, of whose draft all but the last byte stays, or all.
func TestGreatCut(t *testing.T) {
	great := strings.Repeat("0123456789abcdef", api.MaxBytes/16)
	for _, part := range []int{0, 7, 8, api.MaxBytes, api.MaxBytes + 7, api.MaxBytes + 8, api.MaxBytes + 9} {
		for op := range 3 {
			d := disk.New()
			s := opened(t, d)
			d.CutAt(op, part)
			expectCode(t, "Put", s.Put("x", []byte(great)), api.ErrPower)
			d.On()
			s = opened(t, d)
			expectFiles(t, d)
			expectNone(t, s, "x", api.ErrNone)
		}
	}
}

// TestNoRoom: P13.2, an error of the disk's that isn't the power's is answered, and it goes no further; a draft that is removed makes room.
func TestNoRoom(t *testing.T) {
	d := lay(t, "b.x", frame("ab"))
	for n := range api.MaxFiles - 1 {
		expectOK(t, d.Append("f"+strconv.Itoa(n), nil))
	}
	s := opened(t, d)
	d.CutAt(1000, 0)
	for range 3 {
		expectCode(t, "Put of one more", s.Put("y", []byte("ab")), api.ErrArg)
	}
	expectOK(t, s.Put("x", []byte("ab")))
	expectCode(t, "Put of others", s.Put("x", []byte("c")), api.ErrTwice)
	if d.Off() || len(d.List("")) != 1000 || len(d.List("t")) != 0 {
		t.Fatalf("off %v, %d files, %q", d.Off(), len(d.List("")), d.List("t"))
	}
	expectOps(t, d, 1000)
	expectNone(t, s, "y", api.ErrNone)
	d.CutAt(-1, 0)
	expectOK(t, d.Rename("f0", "t.y"), s.Put("y", []byte("ab")))
	expectOps(t, d, 1005)
	expectBlob(t, s, "y", "ab")
	expectCode(t, "Put of one more", s.Put("z", nil), api.ErrArg)
	expectOK(t, s.Delete("x"), s.Put("z", nil))
	expectList(t, s, "y", "z")
}
