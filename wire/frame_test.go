package wire

import (
	"bytes"
	"testing"

	"gristmill/api"
)

// plainFrame is a frame as the document's words say it.
func plainFrame(body []byte) []byte {
	n := len(body)
	rest := append([]byte{byte(n), byte(n >> 8), byte(n >> 16), byte(n >> 24)}, body...)
	s := plainSum(rest)
	return append([]byte{byte(s), byte(s >> 8), byte(s >> 16), byte(s >> 24)}, rest...)
}

// TestFrames: P1.3 and P1.5, bodies there and back, up to MaxBytes.
func TestFrames(t *testing.T) {
	for _, n := range []int{0, 1, 2, 255, 256, 70000, api.MaxBytes - 1, api.MaxBytes} {
		body := bytes.Repeat([]byte{'g', 0, 255}, n/3+1)[:n]
		b, e := Frame(body)
		if e != api.OK || !bytes.Equal(b, plainFrame(body)) {
			t.Errorf("the frame of %d bytes: %v", n, e)
		}
		got, e := Unframe(b)
		if e != api.OK || !bytes.Equal(got, body) {
			t.Errorf("%d bytes out of their frame: %v, %d", n, e, len(got))
		}
	}
}

// TestTooLong: P1.3, a body of one byte more than MaxBytes.
func TestTooLong(t *testing.T) {
	body := make([]byte, api.MaxBytes+1)
	if b, e := Frame(body); e != api.ErrArg || b != nil {
		t.Errorf("Frame: %v, %d bytes", e, len(b))
	}
	if b, e := Unframe(plainFrame(body)); e != api.ErrForm || b != nil {
		t.Errorf("Unframe: %v, %d bytes", e, len(b))
	}
}

// TestUnframeRefuses: P1.3, what is no frame, and which error goes first.
func TestUnframeRefuses(t *testing.T) {
	good := plainFrame([]byte("body"))
	changed := func(at int) []byte {
		b := bytes.Clone(good)
		b[at] ^= 1
		return b
	}
	cases := []struct {
		name string
		b    []byte
		want api.Errno
	}{
		{"nothing", nil, api.ErrShort},
		{"seven bytes", good[:7], api.ErrShort},
		{"eight bytes of a longer one", good[:8], api.ErrForm},
		{"a byte too few", good[:11], api.ErrForm},
		{"a byte too many", append(bytes.Clone(good), 0), api.ErrForm},
		{"another length", changed(4), api.ErrForm},
		{"a far greater length", changed(7), api.ErrForm},
		{"a length of 2^32 - 1", []byte{0, 0, 0, 0, 255, 255, 255, 255}, api.ErrForm},
		{"another sum", changed(0), api.ErrSum},
		{"another sum, its last byte", changed(3), api.ErrSum},
		{"another body", changed(11), api.ErrSum},
		{"eight bytes 0", make([]byte, 8), api.ErrSum},
	}
	for _, c := range cases {
		if b, e := Unframe(c.b); e != c.want || b != nil {
			t.Errorf("%s: %v, %v", c.name, e, b)
		}
	}
}

// TestFrameMemory: P1.3, all in new memory.
func TestFrameMemory(t *testing.T) {
	body := []byte("body")
	b, _ := Frame(body)
	body[0] = 'X'
	got, e := Unframe(b)
	if e != api.OK || string(got) != "body" {
		t.Fatalf("the frame shares the body's memory: %v, %q", e, got)
	}
	b[8] = 'Y'
	if string(got) != "body" {
		t.Error("the body shares the frame's memory")
	}
	got[1] = 'Z'
	if b[9] != 'o' {
		t.Error("the frame shares the body's memory")
	}
}

// TestBursts: P1.5, a frame of which up to 32 bits side by side are changed is refused.
func TestBursts(t *testing.T) {
	good, _ := Frame([]byte("some bytes, and then some more of them"))
	before := bytes.Clone(good)
	patterns := []uint32{1, 3, 0x80000001, 0xffffffff, 0xedb88321, 0x82608edb, 0xdeadbeef, 0x90000005}
	for at := range 8 * len(good) {
		for _, pattern := range patterns {
			b := bytes.Clone(good)
			for bit := range 32 {
				place := at + bit
				if place < 8*len(b) && pattern>>bit&1 == 1 {
					b[place/8] ^= 1 << (place % 8)
				}
			}
			if body, e := Unframe(b); e != api.ErrSum && e != api.ErrForm || body != nil {
				t.Errorf("bits changed from %d on, %x: %v", at, pattern, e)
			}
		}
	}
	if !bytes.Equal(good, before) {
		t.Error("the frame was changed")
	}
}
