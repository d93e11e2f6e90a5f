package op_test

import (
	"math"
	"math/rand/v2"
	"slices"
	"strconv"
	"strings"
	"testing"

	"tumbrel/api"
	"tumbrel/dead"
	"tumbrel/index"
	"tumbrel/op"
	"tumbrel/record"
)

const most64 = math.MaxUint64

// acts are acts that may be, each with its record.
func acts() map[string]struct {
	o op.Op
	r record.Record
} {
	name := strings.Repeat("n", 64)
	l := map[string]struct {
		o op.Op
		r record.Record
	}{}
	add := func(o op.Op, r record.Record) {
		l[strconv.Itoa(len(l))] = struct {
			o op.Op
			r record.Record
		}{o, r}
	}
	add(op.Op{Do: 1}, record.Record{Kind: 1})
	add(op.Op{Do: 2, Lane: 7, N: most64, Where: index.Where{Seg: 3, At: 4, Size: 64}}, record.Record{Kind: 2, N: []uint64{7, most64, 3, 4, 64}})
	add(op.Op{Do: 2}, record.Record{Kind: 2, N: make([]uint64, 5)})
	add(op.Op{Do: 2, Where: index.Where{Seg: most64, At: most64, Size: 1}}, record.Record{Kind: 2, N: []uint64{0, 0, most64, most64, 1}})
	add(op.Op{Do: 3, Lane: -1, N: 5}, record.Record{Kind: 3, N: []uint64{0, 5}})
	add(op.Op{Do: 3, Lane: 0}, record.Record{Kind: 3, N: []uint64{1, 0}})
	add(op.Op{Do: 3, Lane: 7, N: most64}, record.Record{Kind: 3, N: []uint64{8, most64}})
	add(op.Op{Do: 4, Id: 6}, record.Record{Kind: 4, N: []uint64{6}})
	add(op.Op{Do: 5, Id: 6, N: 7}, record.Record{Kind: 5, N: []uint64{6, 7}})
	add(op.Op{Do: 6, Id: 6, N: 7}, record.Record{Kind: 6, N: []uint64{6, 7}})
	add(op.Op{Do: 7, N: 9}, record.Record{Kind: 7, N: []uint64{9}})
	add(op.Op{Do: 8, Id: most64}, record.Record{Kind: 8, N: []uint64{most64}})
	add(op.Op{Do: 9, Id: 2}, record.Record{Kind: 9, N: []uint64{2}})
	add(op.Op{Do: 10, N: 2, Name: name}, record.Record{Kind: 10, N: []uint64{2}, Text: name})
	add(op.Op{Do: 10}, record.Record{Kind: 10, N: []uint64{0}})
	add(op.Op{Do: 10, Name: "\xff \x00"}, record.Record{Kind: 10, N: []uint64{0}, Text: "\xff \x00"})
	return l
}

func TestActsComeBackFromTheirRecords(t *testing.T) {
	for _, c := range acts() {
		if !op.Right(c.o) {
			t.Errorf("%v may be", c.o)
		}
		r, err := op.Record(c.o)
		if err != api.OK || !record.Same(r, c.r) {
			t.Errorf("Record(%v) = %v, %d, want %v", c.o, r, err, c.r)
		}
		o, err := op.Of(c.r)
		if err != api.OK || o != c.o {
			t.Errorf("Of(%v) = %v, %d, want %v", c.r, o, err, c.o)
		}
	}
}

// has tells what acts of each kind have: Lane, Id, N, Name, Where.
var has = [11][5]bool{
	2: {true, false, true, false, true}, 3: {true, false, true, false, false}, 4: {false, true, false, false, false}, 5: {false, true, true, false, false},
	6: {false, true, true, false, false}, 7: {false, false, true, false, false}, 8: {false, true, false, false, false}, 9: {false, true, false, false, false}, 10: {false, false, true, true, false},
}

func refused(t *testing.T, o op.Op) {
	t.Helper()
	if op.Right(o) {
		t.Errorf("%v may not be", o)
	}
	if r, err := op.Record(o); r.Kind != 0 || len(r.N) != 0 || r.Text != "" || err != api.ErrArg {
		t.Errorf("Record(%v) = %v, %d", o, r, err)
	}
	x, _ := index.New(index.Config{Lanes: 8, Payload: 64, Deliver: 1})
	if a := op.Do(x, o); !op.Same(a, op.Answer{Err: api.ErrArg}) {
		t.Errorf("Do(%v) = %v", o, a)
	}
}

func TestWhatAnActHasNot(t *testing.T) {
	for do := 1; do <= 10; do++ {
		for i, o := range []op.Op{{Lane: 1}, {Id: 1}, {N: 1}, {Name: "a"}, {Where: index.Where{Seg: 1}}} {
			o.Do = do
			if has[do][i] != op.Right(o) {
				t.Errorf("Right(%v) is %v", o, op.Right(o))
			}
			if !has[do][i] {
				refused(t, o)
			}
		}
	}
	for do := 1; do <= 10; do++ {
		if do != 2 {
			refused(t, op.Op{Do: do, Where: index.Where{At: 1}})
			refused(t, op.Op{Do: do, Where: index.Where{Size: 1}})
		}
	}
}

func TestWhatMayNotBe(t *testing.T) {
	for _, do := range []int{math.MinInt, -1, 0, 11, 12, 17, 258, math.MaxInt} {
		refused(t, op.Op{Do: do})
	}
	for _, o := range []op.Op{
		{Do: 2, Lane: -1}, {Do: 2, Lane: 8}, {Do: 2, Lane: math.MinInt}, {Do: 2, Lane: math.MaxInt},
		{Do: 2, Where: index.Where{Size: -1}}, {Do: 2, Where: index.Where{Size: 65}}, {Do: 2, Where: index.Where{Size: math.MinInt}},
		{Do: 3, Lane: -2}, {Do: 3, Lane: 8}, {Do: 3, Lane: math.MinInt}, {Do: 3, Lane: math.MaxInt},
		{Do: 10, Name: strings.Repeat("n", 65)}, {Do: 7, Lane: -1}, {Do: 4, Lane: -1},
	} {
		refused(t, o)
	}
}

func TestRecordsOfNoAct(t *testing.T) {
	for _, r := range []record.Record{
		{}, {Kind: -1}, {Kind: 1, N: []uint64{1}}, {Kind: 1, Text: "a"}, {Kind: 2}, {Kind: 2, N: make([]uint64, 4)}, {Kind: 2, N: make([]uint64, 6)},
		{Kind: 2, N: []uint64{8, 0, 0, 0, 0}}, {Kind: 2, N: []uint64{most64, 0, 0, 0, 0}}, {Kind: 2, N: []uint64{1 << 32, 0, 0, 0, 0}}, {Kind: 2, N: []uint64{0, 0, 0, 0, 65}},
		{Kind: 2, N: []uint64{0, 0, 0, 0, most64}}, {Kind: 2, N: []uint64{1 << 63, 0, 0, 0, 0}}, {Kind: 3, N: []uint64{9, 1}}, {Kind: 3, N: []uint64{most64, 1}}, {Kind: 3, N: []uint64{1 << 63, 1}},
		{Kind: 3, N: []uint64{1}}, {Kind: 4}, {Kind: 4, N: []uint64{1, 2}}, {Kind: 7, N: []uint64{1}, Text: "a"}, {Kind: 10, Text: "a"}, {Kind: 10, N: []uint64{1}, Text: strings.Repeat("n", 65)},
		{Kind: 11, N: []uint64{1}, Text: "a"}, {Kind: 12, N: make([]uint64, 5)}, {Kind: 13, N: make([]uint64, 7)}, {Kind: 15, N: []uint64{1, 2}}, {Kind: 17, N: []uint64{1}}, {Kind: 18},
	} {
		if o, err := op.Of(r); o != (op.Op{}) || err != api.ErrForm {
			t.Errorf("Of(%v) = %v, %d", r, o, err)
		}
	}
}

func TestSame(t *testing.T) {
	a := op.Answer{Err: 1, Id: 2, Token: 3, Lane: 4, Count: 5, Many: 6, Where: index.Where{Seg: 7, At: 8, Size: 9}, Ids: []uint64{1, 2}}
	b := a
	b.Ids = slices.Clone(a.Ids)
	if !op.Same(a, b) || !op.Same(op.Answer{}, op.Answer{Ids: []uint64{}}) {
		t.Error("the same are not the same")
	}
	for i, change := range []func(*op.Answer){
		func(x *op.Answer) { x.Err = 0 }, func(x *op.Answer) { x.Id = 0 }, func(x *op.Answer) { x.Token = 0 }, func(x *op.Answer) { x.Lane = 0 },
		func(x *op.Answer) { x.Count = 0 }, func(x *op.Answer) { x.Many = 0 }, func(x *op.Answer) { x.Where.Seg = 0 }, func(x *op.Answer) { x.Where.At = 0 },
		func(x *op.Answer) { x.Where.Size = 0 }, func(x *op.Answer) { x.Ids = []uint64{1, 3} }, func(x *op.Answer) { x.Ids = x.Ids[:1] }, func(x *op.Answer) { x.Ids = nil },
	} {
		c := b
		change(&c)
		if op.Same(a, c) || op.Same(c, a) {
			t.Errorf("change %d makes no difference", i)
		}
	}
}

func does(t *testing.T, x *index.Index, o op.Op, want op.Answer) {
	t.Helper()
	if a := op.Do(x, o); !op.Same(a, want) {
		t.Fatalf("Do(%v) = %v, want %v", o, a, want)
	}
}

func TestDo(t *testing.T) {
	x, _ := index.New(index.Config{Lanes: 2, Payload: 8, Deliver: 2})
	w, v := index.Where{Seg: 5, At: 6, Size: 7}, index.Where{Seg: 8, At: 9, Size: 0}
	does(t, x, op.Op{Do: record.Put, Lane: 1, Where: w}, op.Answer{Id: 1})
	does(t, x, op.Op{Do: record.Put, Lane: 1, N: 3, Where: v}, op.Answer{Id: 2})
	does(t, x, op.Op{Do: record.Lease, Lane: -1, N: 5}, op.Answer{Id: 1, Token: 1, Lane: 1, Count: 1, Where: w})
	does(t, x, op.Op{Do: record.Extend, Id: 1, N: 9}, op.Answer{Id: 1, Lane: 1, Where: w})
	does(t, x, op.Op{Do: record.Tick, N: 3}, op.Answer{Many: 1})
	does(t, x, op.Op{Do: record.Nack, Id: 1}, op.Answer{Id: 1, Lane: 1, Where: w})
	does(t, x, op.Op{Do: record.Lease, Lane: 1, N: 5}, op.Answer{Id: 2, Token: 2, Lane: 1, Count: 1, Where: v})
	does(t, x, op.Op{Do: record.Ack, Id: 2}, op.Answer{Id: 2, Lane: 1, Where: v})
	does(t, x, op.Op{Do: record.Lease, Lane: 1, N: 5}, op.Answer{Id: 1, Token: 3, Lane: 1, Count: 2, Where: w})
	does(t, x, op.Op{Do: record.Opened}, op.Answer{})
	does(t, x, op.Op{Do: record.Seen, N: most64, Name: "A"}, op.Answer{Ids: []uint64{1}})
	does(t, x, op.Op{Do: record.Requeue, Id: 1}, op.Answer{Id: 1, Lane: 1, Where: w})
	for range 2 {
		does(t, x, op.Op{Do: record.Nack, Id: op.Do(x, op.Op{Do: record.Lease, Lane: -1, N: 1}).Token}, op.Answer{Id: 1, Lane: 1, Where: w})
	}
	does(t, x, op.Op{Do: record.Purge, Id: 1}, op.Answer{Id: 1, Lane: 1, Where: w})
	if s := x.Stats(); s.Dead+s.Leased+s.Delayed+s.Ready[1] != 0 || s.Next != 3 || s.Now != 3 {
		t.Errorf("Stats = %v", s)
	}
}

func TestDosErrors(t *testing.T) {
	x, _ := index.New(index.Config{Lanes: 2, Payload: 8, Deliver: 2})
	does(t, x, op.Op{Do: record.Put}, op.Answer{Id: 1})
	does(t, x, op.Op{Do: record.Tick, N: 1}, op.Answer{})
	for _, c := range []struct {
		o    op.Op
		want api.Errno
	}{
		{op.Op{Do: record.Put, Lane: 2}, api.ErrArg}, {op.Op{Do: record.Put, Where: index.Where{Size: 9}}, api.ErrArg}, {op.Op{Do: record.Put, N: most64}, api.ErrOver},
		{op.Op{Do: record.Lease, Lane: 2, N: 1}, api.ErrArg}, {op.Op{Do: record.Lease}, api.ErrArg}, {op.Op{Do: record.Lease, Lane: 1, N: 1}, api.ErrNone}, {op.Op{Do: record.Lease, N: most64}, api.ErrOver},
		{op.Op{Do: record.Ack, Id: 1}, api.ErrToken}, {op.Op{Do: record.Nack, Id: 1}, api.ErrToken}, {op.Op{Do: record.Extend, Id: 1}, api.ErrToken}, {op.Op{Do: record.Tick, N: most64}, api.ErrOver},
		{op.Op{Do: record.Requeue, Id: 1}, api.ErrName}, {op.Op{Do: record.Purge, Id: 1}, api.ErrName}, {op.Op{Do: record.Requeue, Id: 9}, api.ErrName}, {op.Op{Do: record.Seen, Name: "a"}, api.ErrArg}, {op.Op{Do: record.Seen, N: 1, Name: "a b"}, api.ErrArg},
	} {
		does(t, x, c.o, op.Answer{Err: c.want})
	}
	if s := x.Stats(); s.Next != 2 || s.Now != 1 || len(x.State().Cursors) != 0 {
		t.Errorf("errors changed the queue: %v", x.State())
	}
}

func TestAConsumerIsToldNoMoreThanThousand(t *testing.T) {
	// A list of the dead can't be so long; that the number is taken as 1000 is seen by its being no error.
	x, _ := index.New(index.Config{Lanes: 1, Payload: 0, Deliver: 1})
	for id := uint64(1); id <= 3; id++ {
		op.Do(x, op.Op{Do: record.Put})
		op.Do(x, op.Op{Do: record.Nack, Id: op.Do(x, op.Op{Do: record.Lease, Lane: -1, N: 1}).Token})
	}
	for i, n := range []uint64{1000, 1001, 1 << 63, most64, 1<<63 + 1, 1 << 32} {
		does(t, x, op.Op{Do: record.Seen, N: n, Name: "n" + strconv.Itoa(i)}, op.Answer{Ids: []uint64{1, 2, 3}})
	}
	does(t, x, op.Op{Do: record.Seen, N: 2, Name: "m"}, op.Answer{Ids: []uint64{1, 2}})
}

// some is an act, right or not quite.
func some(r *rand.Rand) op.Op {
	switch do := 1 + r.IntN(10); do {
	case record.Put:
		return op.Op{Do: do, Lane: r.IntN(3), N: r.Uint64N(3), Where: index.Where{Seg: r.Uint64N(9), At: r.Uint64N(9), Size: r.IntN(10)}}
	case record.Lease:
		return op.Op{Do: do, Lane: r.IntN(4) - 1, N: r.Uint64N(4)}
	case record.Ack, record.Nack, record.Extend:
		o := op.Op{Do: do, Id: r.Uint64N(40)}
		if do != record.Ack {
			o.N = r.Uint64N(4)
		}
		return o
	case record.Requeue, record.Purge:
		return op.Op{Do: do, Id: r.Uint64N(30)}
	case record.Tick:
		return op.Op{Do: do, N: r.Uint64N(3)}
	case record.Seen:
		return op.Op{Do: do, N: r.Uint64N(4), Name: string(rune('a' + r.IntN(3)))}
	default:
		return op.Op{Do: do}
	}
}

func TestWhatIsWrittenDownDoesTheSame(t *testing.T) {
	for seed := range 60 {
		r := rand.New(rand.NewPCG(12, uint64(seed)))
		x, _ := index.New(index.Config{Lanes: 2, Payload: 8, Deliver: 2})
		y := x.Copy()
		for range 150 {
			o := some(r)
			rec, err := op.Record(o)
			if err != api.OK || !op.Right(o) {
				t.Fatalf("Record(%v): %d", o, err)
			}
			p, err := op.Of(rec)
			if err != api.OK || p != o {
				t.Fatalf("%v came back as %v, %d", o, p, err)
			}
			before := x.State()
			a, b := op.Do(x, o), op.Do(y, p)
			if !op.Same(a, b) || !same(x.State(), y.State()) {
				t.Fatalf("%v: %v and %v", o, a, b)
			}
			if a.Err != api.OK && (!op.Same(a, op.Answer{Err: a.Err}) || !same(x.State(), before)) {
				t.Fatalf("%v had an error, and %v", o, a)
			}
		}
	}
}

func same(a, b index.State) bool {
	return a.Now == b.Now && a.Next == b.Next && a.Leases == b.Leases && a.Turns == b.Turns && a.Deaths == b.Deaths && slices.Equal(a.Items, b.Items) &&
		slices.Equal(a.Dead, b.Dead) && slices.EqualFunc(a.Cursors, b.Cursors, func(a, b dead.Cursor) bool { return a == b })
}

func TestNothingIsShared(t *testing.T) {
	n := []uint64{1, 2, 3, 4, 5}
	r := record.Record{Kind: record.Put, N: n}
	if _, err := op.Of(r); err != api.OK || !slices.Equal(n, []uint64{1, 2, 3, 4, 5}) {
		t.Errorf("Of changed its argument: %v, %d", n, err)
	}
}
