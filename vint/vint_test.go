package vint_test

import (
	"bytes"
	"encoding/binary"
	"math"
	"math/rand/v2"
	"slices"
	"testing"

	"tumbrel/api"
	"tumbrel/vint"
)

// edges are the numbers at which one more byte is needed, and their neighbours.
func edges() []uint64 {
	l := []uint64{0, 1, 2, 300, math.MaxUint64, math.MaxUint64 - 1}
	for k := 7; k < 64; k += 7 {
		n := uint64(1) << k
		l = append(l, n-1, n, n+1)
	}
	slices.Sort(l)
	return slices.Compact(l)
}

func any64(r *rand.Rand) uint64 { return r.Uint64() >> r.UintN(64) }

func TestPutTellsTheBytes(t *testing.T) {
	for _, c := range []struct {
		n    uint64
		want []byte
	}{
		{0, []byte{0}},
		{1, []byte{1}},
		{127, []byte{127}},
		{128, []byte{128, 1}},
		{300, []byte{172, 2}},
		{16383, []byte{255, 127}},
		{16384, []byte{128, 128, 1}},
		{1 << 63, []byte{128, 128, 128, 128, 128, 128, 128, 128, 128, 1}},
		{math.MaxUint64, []byte{255, 255, 255, 255, 255, 255, 255, 255, 255, 1}},
	} {
		if b := vint.Put(c.n); !bytes.Equal(b, c.want) {
			t.Errorf("Put(%d) = %v, want %v", c.n, b, c.want)
		}
		if k := vint.Size(c.n); k != len(c.want) {
			t.Errorf("Size(%d) = %d, want %d", c.n, k, len(c.want))
		}
	}
}

func TestNumbersComeBack(t *testing.T) {
	r := rand.New(rand.NewPCG(2, 1))
	l := edges()
	for range 2000 {
		l = append(l, any64(r))
	}
	for _, n := range l {
		b := vint.Put(n)
		if !bytes.Equal(b, binary.AppendUvarint(nil, n)) || vint.Size(n) != len(b) {
			t.Fatalf("Put(%d) = %v, Size %d", n, b, vint.Size(n))
		}
		for _, behind := range [][]byte{nil, {0}, {128}, {255, 255}} {
			m, k, err := vint.Get(append(bytes.Clone(b), behind...))
			if m != n || k != len(b) || err != api.OK {
				t.Fatalf("Get(%v and %v) = %d, %d, %d", b, behind, m, k, err)
			}
		}
		for i := range b {
			if m, k, err := vint.Get(b[:i]); m != 0 || k != 0 || err != api.ErrShort {
				t.Fatalf("Get(%v) = %d, %d, %d", b[:i], m, k, err)
			}
		}
	}
}

func TestLessHasNoMoreBytes(t *testing.T) {
	k := 0
	for _, n := range edges() {
		if vint.Size(n) < k {
			t.Errorf("Size(%d) = %d, below %d", n, vint.Size(n), k)
		}
		k = vint.Size(n)
	}
	if k != 10 {
		t.Errorf("the greatest number has %d bytes", k)
	}
}

func nines(c ...byte) []byte { return append(bytes.Repeat([]byte{128}, 9), c...) }

func TestGetsErrors(t *testing.T) {
	for _, c := range []struct {
		b    []byte
		want api.Errno
	}{
		{nil, api.ErrShort},
		{[]byte{128}, api.ErrShort},
		{[]byte{255, 128}, api.ErrShort},
		{nines(), api.ErrShort},
		{nines(2), api.ErrForm},
		{nines(127), api.ErrForm},
		{nines(128), api.ErrForm},
		{nines(129), api.ErrForm},
		{nines(255, 1), api.ErrForm},
		{nines(0), api.ErrForm},
		{[]byte{128, 0}, api.ErrForm},
		{[]byte{128, 0, 1}, api.ErrForm},
		{[]byte{255, 0}, api.ErrForm},
		{[]byte{129, 128, 0}, api.ErrForm},
	} {
		if n, k, err := vint.Get(c.b); n != 0 || k != 0 || err != c.want {
			t.Errorf("Get(%v) = %d, %d, %d, want %d", c.b, n, k, err, c.want)
		}
		if l, err := vint.Split(c.b); len(c.b) > 0 && (len(l) != 0 || err != c.want) {
			t.Errorf("Split(%v) = %v, %d, want %d", c.b, l, err, c.want)
		}
	}
	if n, k, err := vint.Get([]byte{0, 0}); n != 0 || k != 1 || err != api.OK {
		t.Errorf("Get(0, 0) = %d, %d, %d", n, k, err)
	}
	if n, k, err := vint.Get(nines(1)); n != 1<<63 || k != 10 || err != api.OK {
		t.Errorf("Get of ten bytes = %d, %d, %d", n, k, err)
	}
}

func TestAllAndSplit(t *testing.T) {
	if b := vint.All(); len(b) != 0 {
		t.Errorf("All() = %v", b)
	}
	if l, err := vint.Split(nil); len(l) != 0 || err != api.OK {
		t.Errorf("Split(nil) = %v, %d", l, err)
	}
	if b := vint.All(0, 300, 0, 1); !bytes.Equal(b, []byte{0, 172, 2, 0, 1}) {
		t.Errorf("All = %v", b)
	}
	r := rand.New(rand.NewPCG(2, 2))
	for range 300 {
		var l []uint64
		var want []byte
		for range r.IntN(8) {
			l = append(l, any64(r))
			want = append(want, vint.Put(l[len(l)-1])...)
		}
		b := vint.All(l...)
		if !bytes.Equal(b, want) {
			t.Fatalf("All(%v) = %v", l, b)
		}
		if m, err := vint.Split(b); !slices.Equal(m, l) || err != api.OK {
			t.Fatalf("Split(%v) = %v, %d", b, m, err)
		}
	}
}

func TestSplitTellsTheFirstError(t *testing.T) {
	for _, c := range []struct {
		b    []byte
		want api.Errno
	}{
		{[]byte{1, 2, 128}, api.ErrShort},
		{[]byte{1, 128, 0, 128}, api.ErrForm},
		{append([]byte{1}, nines(2)...), api.ErrForm},
		{append(nines(1), 128), api.ErrShort},
	} {
		if l, err := vint.Split(c.b); len(l) != 0 || err != c.want {
			t.Errorf("Split(%v) = %v, %d, want %d", c.b, l, err, c.want)
		}
	}
}

func TestBytesComeBack(t *testing.T) {
	r := rand.New(rand.NewPCG(2, 3))
	for range 3000 {
		b := make([]byte, r.IntN(12))
		for i := range b {
			b[i] = byte(r.UintN(256)) | byte(r.UintN(2))<<7
		}
		before := bytes.Clone(b)
		if l, err := vint.Split(b); err == api.OK && !bytes.Equal(vint.All(l...), b) {
			t.Fatalf("Split(%v) = %v", b, l)
		}
		if n, k, err := vint.Get(b); err == api.OK && !bytes.Equal(vint.Put(n), b[:k]) {
			t.Fatalf("Get(%v) = %d, %d", b, n, k)
		}
		if !bytes.Equal(b, before) {
			t.Fatalf("%v became %v", before, b)
		}
	}
}

func TestAnswersAreNewMemory(t *testing.T) {
	for _, n := range []uint64{5, 300} {
		b := vint.Put(n)
		b[0] = 77
		_ = append(b, 9)
		if c := vint.Put(n); !bytes.Equal(c, binary.AppendUvarint(nil, n)) {
			t.Errorf("Put(%d) = %v behind a change of its answer", n, c)
		}
	}
	l := []uint64{1, 2, 300}
	vint.All(l...)[0] = 9
	if !slices.Equal(l, []uint64{1, 2, 300}) {
		t.Errorf("All changed its argument: %v", l)
	}
}
