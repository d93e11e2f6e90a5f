package lane_test

import (
	"math"
	"math/rand/v2"
	"slices"
	"testing"

	"tumbrel/lane"
)

// stands fails the test, if it isn't just these that stand there.
func stands(t *testing.T, l *lane.Lane, want ...uint64) {
	t.Helper()
	if got := l.All(); !slices.Equal(got, want) || l.Len() != len(want) {
		t.Fatalf("All = %v, Len = %d, want %v", got, l.Len(), want)
	}
	id, is := l.First()
	if is != (len(want) > 0) || is && id != want[0] || !is && id != 0 {
		t.Fatalf("First = %d, %v of %v", id, is, want)
	}
	for _, id := range want {
		if !l.Has(id) {
			t.Fatalf("Has(%d) is false of %v", id, want)
		}
	}
}

func TestAnEmptyLane(t *testing.T) {
	l := lane.New()
	stands(t, l)
	if id, is := l.Take(); id != 0 || is || l.Drop(0) || l.Has(0) {
		t.Errorf("Take = %d, %v", id, is)
	}
	stands(t, l)
}

func TestPut(t *testing.T) {
	l := lane.New()
	for _, id := range []uint64{3, 1, 2, 0, math.MaxUint64} {
		if l.Has(id) || !l.Put(id) || l.Put(id) {
			t.Errorf("Put(%d)", id)
		}
	}
	stands(t, l, 3, 1, 2, 0, math.MaxUint64)
}

func TestTake(t *testing.T) {
	l := lane.New()
	for _, id := range []uint64{3, 1, 2} {
		l.Put(id)
	}
	for _, want := range []uint64{3, 1, 2} {
		if id, is := l.Take(); id != want || !is || l.Has(want) {
			t.Errorf("Take = %d, %v, want %d", id, is, want)
		}
	}
	if id, is := l.Take(); id != 0 || is {
		t.Errorf("Take of none = %d, %v", id, is)
	}
	if !l.Put(1) {
		t.Error("what was taken may be put again")
	}
	stands(t, l, 1)
}

func TestDrop(t *testing.T) {
	for _, c := range []struct {
		drop uint64
		want []uint64
	}{{3, []uint64{1, 2}}, {1, []uint64{3, 2}}, {2, []uint64{3, 1}}} {
		l := lane.New()
		for _, id := range []uint64{3, 1, 2} {
			l.Put(id)
		}
		if l.Drop(4) || !l.Drop(c.drop) || l.Drop(c.drop) || l.Has(c.drop) {
			t.Errorf("Drop(%d)", c.drop)
		}
		stands(t, l, c.want...)
		if !l.Put(c.drop) {
			t.Errorf("%d may be put again", c.drop)
		}
		stands(t, l, append(c.want, c.drop)...)
	}
	l := lane.New()
	l.Put(7)
	if !l.Drop(7) {
		t.Error("the only one may be dropped")
	}
	stands(t, l)
	l.Put(8)
	stands(t, l, 8)
}

func TestAsASlowOne(t *testing.T) {
	for seed := range 100 {
		r := rand.New(rand.NewPCG(8, uint64(seed)))
		l := lane.New()
		var want []uint64
		for range 300 {
			id := r.Uint64N(12)
			at := slices.Index(want, id)
			switch r.IntN(5) {
			case 0, 1, 2:
				if l.Put(id) != (at < 0) {
					t.Fatalf("Put(%d) to %v", id, want)
				}
				if at < 0 {
					want = append(want, id)
				}
			case 3:
				if l.Drop(id) != (at >= 0) {
					t.Fatalf("Drop(%d) of %v", id, want)
				}
				if at >= 0 {
					want = slices.Delete(want, at, at+1)
				}
			case 4:
				got, is := l.Take()
				if is != (len(want) > 0) || is && got != want[0] || !is && got != 0 {
					t.Fatalf("Take of %v: %d, %v", want, got, is)
				}
				if is {
					want = want[1:]
				}
			}
			if l.Has(id) != slices.Contains(want, id) {
				t.Fatalf("Has(%d) of %v", id, want)
			}
			stands(t, l, want...)
		}
	}
}

func TestALongLane(t *testing.T) {
	l := lane.New()
	const n = 100000
	for id := range uint64(n) {
		l.Put(id)
	}
	for id := uint64(1); id < n; id += 2 {
		l.Drop(id)
	}
	for id := uint64(0); id < n; id += 2 {
		if got, is := l.Take(); got != id || !is {
			t.Fatalf("Take = %d, %v, want %d", got, is, id)
		}
	}
	stands(t, l)
}

func TestNothingIsShared(t *testing.T) {
	l, m := lane.New(), lane.New()
	l.Put(1)
	l.Put(2)
	stands(t, m)
	a := l.All()
	a[0] = 9
	_ = append(a[:1], 8)
	stands(t, l, 1, 2)
}
