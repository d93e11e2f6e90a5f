package due_test

import (
	"math"
	"math/rand/v2"
	"testing"

	"tumbrel/due"
)

func takes(t *testing.T, h *due.Heap, now, id, at uint64, is bool) {
	t.Helper()
	if i, a, ok := h.Take(now); i != id || a != at || ok != is {
		t.Errorf("Take(%d) = %d, %d, %v, want %d, %d, %v", now, i, a, ok, id, at, is)
	}
}

func TestAnEmptyHeap(t *testing.T) {
	h := due.New()
	if h.Len() != 0 {
		t.Errorf("Len = %d", h.Len())
	}
	if id, at, is := h.First(); id != 0 || at != 0 || is {
		t.Errorf("First = %d, %d, %v", id, at, is)
	}
	takes(t, h, math.MaxUint64, 0, 0, false)
	if at, is := h.At(0); at != 0 || is || h.Drop(0) || h.Move(0, 1) || h.Len() != 0 {
		t.Errorf("something is in it: %d, %v", at, is)
	}
}

func TestPut(t *testing.T) {
	h := due.New()
	if !h.Put(1, 5) || !h.Put(2, 3) || h.Put(1, 1) || h.Put(2, 3) || h.Len() != 2 {
		t.Errorf("Put, of ids that are there or not: %d", h.Len())
	}
	if at, is := h.At(1); at != 5 || !is {
		t.Errorf("At(1) = %d, %v", at, is)
	}
	if at, is := h.At(3); at != 0 || is {
		t.Errorf("At(3) = %d, %v", at, is)
	}
	takes(t, h, 9, 2, 3, true)
	if !h.Put(2, 9) {
		t.Error("what was taken may be put again")
	}
	takes(t, h, 9, 1, 5, true)
	takes(t, h, 9, 2, 9, true)
	takes(t, h, 9, 0, 0, false)
}

func TestTakeByTimeAndId(t *testing.T) {
	h := due.New()
	for _, x := range [][2]uint64{{9, 4}, {0, 4}, {5, 4}, {7, 0}, {math.MaxUint64, 4}, {1, math.MaxUint64}, {0, 9}} {
		h.Put(x[0], x[1])
	}
	if id, at, is := h.First(); id != 7 || at != 0 || !is || h.Len() != 6 {
		t.Errorf("First = %d, %d, %v", id, at, is)
	}
	takes(t, h, 0, 7, 0, true)
	takes(t, h, 3, 0, 0, false)
	for _, id := range []uint64{0, 5, 9, math.MaxUint64} {
		takes(t, h, 4, id, 4, true)
	}
	takes(t, h, math.MaxUint64-1, 0, 0, false)
	takes(t, h, math.MaxUint64, 1, math.MaxUint64, true)
	takes(t, h, math.MaxUint64, 0, 0, false)
}

func TestDropAndMove(t *testing.T) {
	h := due.New()
	for id := range uint64(10) {
		h.Put(id, 10*id)
	}
	if !h.Drop(0) || h.Drop(0) || h.Drop(10) || !h.Drop(4) || h.Len() != 8 {
		t.Errorf("Drop: %d are left", h.Len())
	}
	if !h.Move(9, 0) || !h.Move(1, 500) || !h.Move(2, 20) || h.Move(0, 1) || h.Move(77, 1) || h.Len() != 8 {
		t.Errorf("Move: %d are there", h.Len())
	}
	if at, is := h.At(9); at != 0 || !is {
		t.Errorf("At(9) = %d, %v", at, is)
	}
	for _, x := range [][2]uint64{{9, 0}, {2, 20}, {3, 30}, {5, 50}, {6, 60}, {7, 70}, {8, 80}, {1, 500}} {
		takes(t, h, 500, x[0], x[1], true)
	}
}

// slow tells the first one of a map.
func slow(m map[uint64]uint64) (uint64, uint64, bool) {
	first, least, is := uint64(0), uint64(0), false
	for id, at := range m {
		if !is || at < least || at == least && id < first {
			first, least, is = id, at, true
		}
	}
	return first, least, is
}

func TestAsTheSlowOne(t *testing.T) {
	for seed := range 100 {
		r := rand.New(rand.NewPCG(7, uint64(seed)))
		h, m := due.New(), map[uint64]uint64{}
		for range 300 {
			id, at := r.Uint64N(20), r.Uint64N(10)
			_, there := m[id]
			switch r.IntN(5) {
			case 0, 1:
				if h.Put(id, at) == there {
					t.Fatalf("Put(%d): there before: %v", id, there)
				}
				if !there {
					m[id] = at
				}
			case 2:
				if h.Drop(id) != there {
					t.Fatalf("Drop(%d) isn't %v", id, there)
				}
				delete(m, id)
			case 3:
				if h.Move(id, at) != there {
					t.Fatalf("Move(%d) isn't %v", id, there)
				}
				if there {
					m[id] = at
				}
			case 4:
				i, a, is := slow(m)
				if !is || a > at {
					takes(t, h, at, 0, 0, false)
				} else {
					takes(t, h, at, i, a, true)
					delete(m, i)
				}
			}
			i, a, is := slow(m)
			if gi, ga, ok := h.First(); gi != i || ga != a || ok != is || h.Len() != len(m) {
				t.Fatalf("First = %d, %d, %v, want %d, %d, %v", gi, ga, ok, i, a, is)
			}
			if a, is := h.At(id); a != m[id] || is != (h.Len() > 0 && has(m, id)) {
				t.Fatalf("At(%d) = %d, %v", id, a, is)
			}
		}
	}
}

func has(m map[uint64]uint64, id uint64) bool {
	_, is := m[id]
	return is
}

func TestWhatIsTakenRises(t *testing.T) {
	r := rand.New(rand.NewPCG(7, 1000))
	h := due.New()
	for id := range uint64(20000) {
		h.Put(id, r.Uint64N(5000))
	}
	seen := make([]bool, 20000)
	lastId, lastAt := uint64(0), uint64(0)
	for n := range 20000 {
		id, at, is := h.Take(math.MaxUint64)
		if !is || seen[id] || n > 0 && (at < lastAt || at == lastAt && id < lastId) {
			t.Fatalf("%d, %d, %v behind %d, %d", id, at, is, lastId, lastAt)
		}
		seen[id], lastId, lastAt = true, id, at
	}
	takes(t, h, math.MaxUint64, 0, 0, false)
}

func TestHeapsShareNothing(t *testing.T) {
	a, b := due.New(), due.New()
	a.Put(1, 1)
	if b.Len() != 0 || !b.Put(1, 2) {
		t.Error("two heaps share an id")
	}
	takes(t, a, 9, 1, 1, true)
	takes(t, b, 9, 1, 2, true)
}
