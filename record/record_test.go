package record_test

import (
	"bytes"
	"math"
	"math/rand/v2"
	"slices"
	"strings"
	"testing"

	"tumbrel/api"
	"tumbrel/frame"
	"tumbrel/record"
	"tumbrel/vint"
)

// kinds tells, as the chapter's table does, how many numbers each kind has, and whether a text.
var kinds = []struct {
	kind, numbers int
	text          bool
}{
	{1, 0, false}, {2, 5, false}, {3, 2, false}, {4, 1, false}, {5, 2, false}, {6, 2, false}, {7, 1, false}, {8, 1, false}, {9, 1, false},
	{10, 1, true}, {11, 1, true}, {12, 5, false}, {13, 7, false}, {14, 10, false}, {15, 2, false}, {16, 1, true}, {17, 1, false},
}

func TestKindsAreNumbered(t *testing.T) {
	l := []int{record.Opened, record.Put, record.Lease, record.Ack, record.Nack, record.Extend, record.Tick, record.Requeue, record.Purge,
		record.Seen, record.Message, record.Root, record.Base, record.Live, record.Dead, record.Cursor, record.End}
	for i, k := range l {
		if k != i+1 {
			t.Errorf("kind %d is numbered %d", i+1, k)
		}
	}
}

// bodied is a frame of a kind, numbers and a text, right or not.
func bodied(kind byte, text string, n ...uint64) frame.Frame {
	return frame.Frame{Kind: kind, Body: append(vint.All(n...), text...)}
}

func bytesOf(t *testing.T, r record.Record) []byte {
	t.Helper()
	b, err := record.Bytes(r)
	if err != api.OK {
		t.Fatalf("Bytes(%v): %d", r, err)
	}
	return b
}

func TestRightBytesAndReadOfEachKind(t *testing.T) {
	for _, k := range kinds {
		for n := range 12 {
			for _, text := range []string{"", "a", strings.Repeat("x", 64), strings.Repeat("x", 65)} {
				r := record.Record{Kind: k.kind, N: make([]uint64, n), Text: text}
				right := n == k.numbers && (text == "" || k.text && len(text) <= 64)
				if record.Right(r) != right {
					t.Errorf("Right(%v) isn't %v", r, right)
				}
				b, err := record.Bytes(r)
				want, _ := frame.Bytes(bodied(byte(k.kind), text, r.N...))
				if right && (err != api.OK || !bytes.Equal(b, want)) || !right && (err != api.ErrArg || len(b) != 0) {
					t.Errorf("Bytes(%v) = %x, %d", r, b, err)
				}
			}
		}
		for i := range k.numbers {
			if x, err := record.Read(bodied(byte(k.kind), "", make([]uint64, i)...)); err != api.ErrShort || x.Kind != 0 || len(x.N) != 0 {
				t.Errorf("Read of %d with %d numbers: %v, %d", k.kind, i, x, err)
			}
		}
	}
}

func TestUnknownKinds(t *testing.T) {
	for _, kind := range []int{-1, 0, 18, 255, 256, 257, 256 + 7, math.MinInt, math.MaxInt} {
		for _, n := range [][]uint64{nil, {5}, {1, 2}} {
			r := record.Record{Kind: kind, N: n}
			if b, err := record.Bytes(r); record.Right(r) || len(b) != 0 || err != api.ErrArg {
				t.Errorf("Bytes(%v) = %x, %d", r, b, err)
			}
		}
	}
	for _, kind := range []byte{0, 18, 100, 255} {
		for _, b := range [][]byte{nil, {5}, {128}, {128, 0}} {
			if r, err := record.Read(frame.Frame{Kind: kind, Body: b}); r.Kind != 0 || err != api.ErrForm {
				t.Errorf("Read of the kind %d: %v, %d", kind, r, err)
			}
		}
	}
}

func TestReadsErrorsInTheirOrder(t *testing.T) {
	nines := bytes.Repeat([]byte{255}, 9)
	for _, c := range []struct {
		x    frame.Frame
		want api.Errno
	}{
		{frame.Frame{Kind: 7, Body: []byte{128}}, api.ErrShort},
		{frame.Frame{Kind: 7, Body: []byte{128, 0}}, api.ErrForm},
		{frame.Frame{Kind: 7, Body: append(bytes.Clone(nines), 2)}, api.ErrForm},
		{frame.Frame{Kind: 5, Body: []byte{1, 128}}, api.ErrShort},
		{frame.Frame{Kind: 5, Body: []byte{128, 0}}, api.ErrForm},
		{bodied(7, "a", 5), api.ErrForm},
		{bodied(1, "a"), api.ErrForm},
		{bodied(15, "\x00", 1, 2), api.ErrForm},
		{bodied(11, strings.Repeat("x", 65), 1), api.ErrForm},
		{bodied(11, strings.Repeat("x", 390), 1), api.ErrForm},
		{frame.Frame{Kind: 16, Body: make([]byte, 66)}, api.ErrForm},
		{frame.Frame{Kind: 17, Body: make([]byte, 1000)}, api.ErrForm},
	} {
		if r, err := record.Read(c.x); r.Kind != 0 || len(r.N) != 0 || r.Text != "" || err != c.want {
			t.Errorf("Read(%v) = %v, %d, want %d", c.x, r, err, c.want)
		}
	}
	r, err := record.Read(bodied(11, "\x80\x00", 300))
	if err != api.OK || !record.Same(r, record.Record{Kind: 11, N: []uint64{300}, Text: "\x80\x00"}) {
		t.Errorf("Read of a text of any bytes: %v, %d", r, err)
	}
}

func some(r *rand.Rand) record.Record {
	k := kinds[r.IntN(len(kinds))]
	x := record.Record{Kind: k.kind}
	for range k.numbers {
		x.N = append(x.N, r.Uint64()>>r.UintN(64))
	}
	if k.text {
		b := make([]byte, r.IntN(65))
		for i := range b {
			b[i] = byte(r.UintN(256))
		}
		x.Text = string(b)
	}
	return x
}

func TestRecordsComeBack(t *testing.T) {
	if b := bytesOf(t, record.Record{Kind: record.Tick, N: []uint64{5}}); len(b) != 12 {
		t.Errorf("Tick 5 has %d bytes", len(b))
	}
	r := rand.New(rand.NewPCG(5, 1))
	for range 1000 {
		x := some(r)
		f, _, err := frame.Read(bytesOf(t, x))
		if err != api.OK || int(f.Kind) != x.Kind {
			t.Fatalf("%v has the frame %v, %d", x, f, err)
		}
		y, err := record.Read(f)
		if err != api.OK || !record.Same(x, y) {
			t.Fatalf("%v comes back as %v, %d", x, y, err)
		}
	}
	full := record.Record{Kind: record.Live, N: slices.Repeat([]uint64{math.MaxUint64}, 10)}
	if b := bytesOf(t, full); len(b) != 111 {
		t.Errorf("the greatest Live has %d bytes", len(b))
	}
}

func TestBytesComeBack(t *testing.T) {
	r := rand.New(rand.NewPCG(5, 2))
	for range 5000 {
		x := frame.Frame{Kind: byte(r.UintN(19)), Body: make([]byte, r.IntN(9))}
		for i := range x.Body {
			x.Body[i] = byte(r.UintN(140))
		}
		before := bytes.Clone(x.Body)
		y, err := record.Read(x)
		if err != api.OK {
			continue
		}
		want, _ := frame.Bytes(x)
		if !record.Right(y) || !bytes.Equal(bytesOf(t, y), want) || !bytes.Equal(x.Body, before) {
			t.Fatalf("%v is read as %v", x, y)
		}
	}
}

func TestAll(t *testing.T) {
	r := rand.New(rand.NewPCG(5, 3))
	noKind, _ := frame.Bytes(frame.Frame{Kind: 18})
	short, _ := frame.Bytes(frame.Frame{Kind: 7})
	tick := bytesOf(t, record.Record{Kind: record.Tick, N: []uint64{1}})
	turned := bytes.Clone(tick)
	turned[8] ^= 1
	for range 100 {
		var all []byte
		var want []record.Record
		var ends []int
		for range r.IntN(6) {
			want = append(want, some(r))
			all = append(all, bytesOf(t, want[len(want)-1])...)
			ends = append(ends, len(all))
		}
		for _, c := range []struct {
			behind []byte
			err    api.Errno
		}{
			{nil, api.OK}, {tick[:5], api.ErrShort}, {tick[:11], api.ErrShort}, {turned, api.ErrSum}, {noKind, api.ErrForm}, {short, api.ErrShort},
			{append(bytes.Clone(noKind), tick...), api.ErrForm}, {append(bytes.Clone(short), noKind...), api.ErrShort},
			{append(bytes.Clone(noKind), turned...), api.ErrForm}, {append(bytes.Clone(turned), noKind...), api.ErrSum},
		} {
			l, e, err := record.All(append(bytes.Clone(all), c.behind...))
			if !slices.EqualFunc(l, want, record.Same) || !slices.Equal(e, ends) || err != c.err {
				t.Fatalf("All of %v and %x: %v, %v, %d, want %v, %d", want, c.behind, l, e, err, ends, c.err)
			}
		}
	}
}

func TestAllOfABeginningTellsWhatIsWhole(t *testing.T) {
	r := rand.New(rand.NewPCG(5, 4))
	var all []byte
	var want []record.Record
	ends := []int{0}
	for range 8 {
		want = append(want, some(r))
		all = append(all, bytesOf(t, want[len(want)-1])...)
		ends = append(ends, len(all))
	}
	whole := 0
	for n := range len(all) + 1 {
		if whole+1 < len(ends) && ends[whole+1] == n {
			whole++
		}
		l, e, err := record.All(all[:n])
		wantErr := api.ErrShort
		if ends[whole] == n {
			wantErr = api.OK
		}
		if !slices.EqualFunc(l, want[:whole], record.Same) || !slices.Equal(e, ends[1:whole+1]) || err != wantErr {
			t.Fatalf("All of the first %d bytes: %d records, %v, %d", n, len(l), e, err)
		}
	}
}

func TestSame(t *testing.T) {
	a := record.Record{Kind: 11, N: []uint64{1, 2}, Text: "a"}
	for _, c := range []struct {
		b    record.Record
		want bool
	}{
		{record.Record{Kind: 11, N: []uint64{1, 2}, Text: "a"}, true},
		{record.Record{Kind: 10, N: []uint64{1, 2}, Text: "a"}, false},
		{record.Record{Kind: 11, N: []uint64{1, 3}, Text: "a"}, false},
		{record.Record{Kind: 11, N: []uint64{1}, Text: "a"}, false},
		{record.Record{Kind: 11, N: []uint64{1, 2, 0}, Text: "a"}, false},
		{record.Record{Kind: 11, N: []uint64{1, 2}, Text: "b"}, false},
		{record.Record{Kind: 11, N: []uint64{1, 2}}, false},
	} {
		if record.Same(a, c.b) != c.want || record.Same(c.b, a) != c.want {
			t.Errorf("Same(%v, %v) isn't %v", a, c.b, c.want)
		}
	}
	if !record.Same(record.Record{Kind: 1}, record.Record{Kind: 1, N: []uint64{}}) {
		t.Error("no numbers and an empty list of them are one")
	}
}

func TestAnswersShareNothing(t *testing.T) {
	x := bodied(5, "", 1, 2)
	r, _ := record.Read(x)
	x.Body[0] = 9
	if r.N[0] != 1 {
		t.Error("Read's record shares its frame")
	}
	n := []uint64{1, 2}
	b := bytesOf(t, record.Record{Kind: 5, N: n})
	b = append(b, b...)
	l, _, _ := record.All(b)
	l[0].N[0] = 7
	_ = append(l[0].N, 8)
	if l[1].N[0] != 1 || n[0] != 1 {
		t.Error("the records of All share numbers")
	}
}
