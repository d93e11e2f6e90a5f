package frame_test

import (
	"bytes"
	"math/rand/v2"
	"slices"
	"testing"

	"tumbrel/api"
	"tumbrel/frame"
	"tumbrel/sum"
)

// framed is a frame's bytes as the chapter tells them, of any length that is told.
func framed(kind byte, told int, body []byte) []byte {
	return append(sum.Put([]byte{kind, byte(told), byte(told >> 8)}), sum.Put(body)...)
}

func some(r *rand.Rand, most int) frame.Frame {
	x := frame.Frame{Kind: byte(r.UintN(256)), Body: make([]byte, r.IntN(most+1))}
	for i := range x.Body {
		x.Body[i] = byte(r.UintN(256))
	}
	return x
}

func bytesOf(t *testing.T, x frame.Frame) []byte {
	t.Helper()
	b, err := frame.Bytes(x)
	if err != api.OK {
		t.Fatalf("Bytes of %d bytes: %d", len(x.Body), err)
	}
	return b
}

func TestBytes(t *testing.T) {
	for _, n := range []int{0, 1, 2, 255, 256, 257, 399, 400} {
		x := frame.Frame{Kind: 200, Body: bytes.Repeat([]byte{7}, n)}
		b := bytesOf(t, x)
		if !bytes.Equal(b, framed(200, n, x.Body)) || len(b) != n+11 {
			t.Errorf("Bytes, of a body of %d: %x", n, b)
		}
	}
	if b := bytesOf(t, frame.Frame{Kind: 1}); len(b) != 11 {
		t.Errorf("a frame without a body has %d bytes", len(b))
	}
	for _, n := range []int{401, 512, 65536, 65537} {
		if b, err := frame.Bytes(frame.Frame{Kind: 1, Body: make([]byte, n)}); len(b) != 0 || err != api.ErrFull {
			t.Errorf("Bytes, of a body of %d: %d bytes, %d", n, len(b), err)
		}
	}
}

func TestSame(t *testing.T) {
	a := frame.Frame{Kind: 1, Body: []byte("ab")}
	for _, c := range []struct {
		a, b frame.Frame
		want bool
	}{
		{a, frame.Frame{Kind: 1, Body: []byte("ab")}, true},
		{frame.Frame{}, frame.Frame{Body: []byte{}}, true},
		{a, frame.Frame{Kind: 2, Body: []byte("ab")}, false},
		{a, frame.Frame{Kind: 1, Body: []byte("ac")}, false},
		{a, frame.Frame{Kind: 1, Body: []byte("a")}, false},
		{a, frame.Frame{Kind: 1, Body: []byte("abc")}, false},
		{a, frame.Frame{Kind: 1}, false},
	} {
		if frame.Same(c.a, c.b) != c.want || frame.Same(c.b, c.a) != c.want {
			t.Errorf("Same(%v, %v) isn't %v", c.a, c.b, c.want)
		}
	}
}

func TestFramesComeBack(t *testing.T) {
	r := rand.New(rand.NewPCG(4, 1))
	for i := range 300 {
		x := some(r, 20)
		if i%10 == 0 {
			x = some(r, api.MostBody)
		}
		b := bytesOf(t, x)
		for _, behind := range []string{"", "\x00", "more behind it"} {
			y, n, err := frame.Read(append(bytes.Clone(b), behind...))
			if !frame.Same(x, y) || n != len(b) || err != api.OK {
				t.Fatalf("Read of %x and %q: %v, %d, %d", b, behind, y, n, err)
			}
		}
		for i := range b {
			if y, n, err := frame.Read(b[:i]); y.Kind != 0 || len(y.Body) != 0 || n != 0 || err != api.ErrShort {
				t.Fatalf("Read of the first %d of %x: %v, %d, %d", i, b, y, n, err)
			}
		}
	}
}

func TestReadsErrorsInTheirOrder(t *testing.T) {
	bad := func(b []byte, at int) []byte {
		b = bytes.Clone(b)
		b[at] ^= 4
		return b
	}
	whole := framed(3, 2, []byte("hi"))
	for _, c := range []struct {
		what string
		b    []byte
		want api.Errno
	}{
		{"nothing", nil, api.ErrShort},
		{"six zeros", make([]byte, 6), api.ErrShort},
		{"seven zeros", make([]byte, 7), api.ErrSum},
		{"a turned head, too short behind", bad(whole, 1)[:8], api.ErrSum},
		{"a turned head", bad(whole, 0), api.ErrSum},
		{"a turned sum of the head", bad(whole, 5), api.ErrSum},
		{"a turned sum of the head that tells too much", bad(framed(3, 401, nil), 4), api.ErrSum},
		{"too much told, and too short", framed(3, 401, nil), api.ErrForm},
		{"the most is told", framed(3, 65535, nil)[:7], api.ErrForm},
		{"too much told, all there", framed(3, 401, make([]byte, 401)), api.ErrForm},
		{"as much as may be told, and too short", framed(3, 400, nil), api.ErrShort},
		{"a turned body", bad(whole, 7), api.ErrSum},
		{"a turned sum of the body", bad(whole, len(whole)-1), api.ErrSum},
		{"a turned body, too short", bad(whole, 7)[:len(whole)-1], api.ErrShort},
		{"more is told than stands in the sum", append(framed(3, 3, []byte("hi")), 0), api.ErrSum},
	} {
		if x, n, err := frame.Read(c.b); x.Kind != 0 || len(x.Body) != 0 || n != 0 || err != c.want {
			t.Errorf("Read of %s: %v, %d, %d, want %d", c.what, x, n, err, c.want)
		}
	}
}

func TestAll(t *testing.T) {
	if l, n, err := frame.All(nil); len(l) != 0 || n != 0 || err != api.OK {
		t.Errorf("All(nil) = %v, %d, %d", l, n, err)
	}
	r := rand.New(rand.NewPCG(4, 2))
	for range 100 {
		var all []byte
		var want []frame.Frame
		for range r.IntN(6) {
			x := some(r, 30)
			want = append(want, x)
			all = append(all, bytesOf(t, x)...)
		}
		turned := framed(1, 1, []byte{1})
		turned[7] ^= 1
		for _, c := range []struct {
			behind []byte
			err    api.Errno
		}{{nil, api.OK}, {[]byte{1}, api.ErrShort}, {turned, api.ErrSum}, {append(bytes.Clone(turned), framed(1, 0, nil)...), api.ErrSum}, {framed(1, 500, nil), api.ErrForm}} {
			l, n, err := frame.All(append(bytes.Clone(all), c.behind...))
			if !slices.EqualFunc(l, want, frame.Same) || n != len(all) || err != c.err {
				t.Fatalf("All of %d frames and %x: %d, %d, %d", len(want), c.behind, len(l), n, err)
			}
		}
		if len(all) > 0 {
			last := len(bytesOf(t, want[len(want)-1]))
			l, n, err := frame.All(all[:len(all)-1])
			if !slices.EqualFunc(l, want[:len(want)-1], frame.Same) || n != len(all)-last || err != api.ErrShort {
				t.Fatalf("All of a beginning: %d, %d, %d", len(l), n, err)
			}
		}
	}
}

func TestTurnedBitsAreNoFrame(t *testing.T) {
	r := rand.New(rand.NewPCG(4, 3))
	for _, size := range []int{0, 1, 5, 20} {
		x := some(r, 0)
		x.Body = bytes.Repeat([]byte{0xa5}, size)
		b := bytesOf(t, x)
		for from := range 8 * len(b) {
			for range 20 {
				q, burst := bytes.Clone(b), r.Uint32()|1
				for i := range 32 {
					if at := from + i; burst>>i&1 == 1 && at < 8*len(q) {
						q[at/8] ^= 1 << (at % 8)
					}
				}
				if y, n, err := frame.Read(append(q, b...)); err == api.OK || n != 0 || len(y.Body) != 0 {
					t.Fatalf("Read of %x, turned from %x: %v, %d", q, b, y, n)
				}
			}
		}
	}
}

func TestAnswersShareNothing(t *testing.T) {
	body := make([]byte, 2, 40)
	copy(body, "hi")
	b := bytesOf(t, frame.Frame{Kind: 1, Body: body})
	if string(body[:cap(body)]) != "hi"+string(make([]byte, 38)) {
		t.Errorf("Bytes wrote into its argument: %x", body[:cap(body)])
	}
	b = append(b, b...)
	before := bytes.Clone(b)
	l, _, _ := frame.All(b)
	l[0].Body[0] = 'x'
	_ = append(l[0].Body, "yyyyyyyyyyyyyy"...)
	if string(l[1].Body) != "hi" || !bytes.Equal(b, before) {
		t.Error("the frames of All share what they stand in")
	}
	x, _, _ := frame.Read(b)
	x.Body[0] = 'x'
	_ = append(x.Body, 'y')
	if !bytes.Equal(b, before) {
		t.Error("Read's frame shares its argument")
	}
}
