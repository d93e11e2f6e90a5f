package index_test

import (
	"math"
	"slices"
	"strconv"
	"testing"

	"tumbrel/api"
	"tumbrel/dead"
	"tumbrel/index"
	"tumbrel/life"
)

const most64 = math.MaxUint64

func made(t *testing.T, lanes, payload, deliver int) *index.Index {
	t.Helper()
	x, err := index.New(index.Config{Lanes: lanes, Payload: payload, Deliver: deliver})
	if x == nil || err != api.OK {
		t.Fatalf("New: %d", err)
	}
	return x
}

func put(t *testing.T, x *index.Index, lane int, delay uint64) uint64 {
	t.Helper()
	id, err := x.Put(lane, delay, index.Where{})
	if err != api.OK {
		t.Fatalf("Put(%d, %d): %d", lane, delay, err)
	}
	return id
}

// leased leases one, that must be id.
func leased(t *testing.T, x *index.Index, lane int, span, id uint64) uint64 {
	t.Helper()
	it, err := x.Lease(lane, span)
	if err != api.OK || it.Id != id {
		t.Fatalf("Lease(%d, %d) = %d, %d, want %d", lane, span, it.Id, err, id)
	}
	return it.Life.Token
}

func ticked(t *testing.T, x *index.Index, n uint64, want int) {
	t.Helper()
	if many, err := x.Tick(n); many != want || err != api.OK {
		t.Fatalf("Tick(%d) = %d, %d, want %d", n, many, err, want)
	}
}

func fine(t *testing.T, err api.Errno) {
	t.Helper()
	if err != api.OK {
		t.Fatalf("error %d", err)
	}
}

// died puts a message that dies at once behind its first lease; Deliver must be 1.
func died(t *testing.T, x *index.Index) uint64 {
	t.Helper()
	id := put(t, x, 0, 0)
	_, err := x.Nack(leased(t, x, 0, 1, id), 0)
	fine(t, err)
	return id
}

func same(a, b index.State) bool {
	return a.Now == b.Now && a.Next == b.Next && a.Leases == b.Leases && a.Turns == b.Turns && a.Deaths == b.Deaths &&
		slices.Equal(a.Items, b.Items) && slices.Equal(a.Dead, b.Dead) && slices.Equal(a.Cursors, b.Cursors)
}

func TestRight(t *testing.T) {
	for lanes := -1; lanes <= 10; lanes++ {
		for _, payload := range []int{math.MinInt, -1, 0, 1, 64, 65, math.MaxInt} {
			for _, deliver := range []int{math.MinInt, -1, 0, 1, 20, 21, math.MaxInt} {
				c := index.Config{Lanes: lanes, Payload: payload, Deliver: deliver}
				want := lanes >= 1 && lanes <= 8 && payload >= 0 && payload <= 64 && deliver >= 1 && deliver <= 20
				x, err := index.New(c)
				if index.Right(c) != want || want != (err == api.OK) || want != (x != nil) || !want && err != api.ErrArg {
					t.Errorf("Right(%v) isn't %v, New: %d", c, want, err)
				}
				if y, err := index.From(c, index.State{Next: 1}); want != (err == api.OK) || want != (y != nil) || !want && err != api.ErrArg {
					t.Errorf("From(%v): %d", c, err)
				}
			}
		}
	}
}

func TestAnEmptyQueue(t *testing.T) {
	x := made(t, 3, 8, 2)
	if !same(x.State(), index.State{Next: 1}) {
		t.Errorf("New is %v", x.State())
	}
	if s := x.Stats(); s.Now != 0 || s.Next != 1 || !slices.Equal(s.Ready, []int{0, 0, 0}) || s.Delayed+s.Leased+s.Dead != 0 {
		t.Errorf("Stats = %v", s)
	}
	if it, is := x.Get(1); it != (index.Item{}) || is {
		t.Errorf("Get = %v, %v", it, is)
	}
	if it, err := x.Lease(-1, 1); it != (index.Item{}) || err != api.ErrNone {
		t.Errorf("Lease = %v, %d", it, err)
	}
	if ids, err := x.Seen("a", 5); len(ids) != 0 || err != api.OK {
		t.Errorf("Seen = %v, %d", ids, err)
	}
	ticked(t, x, 0, 0)
	ticked(t, x, most64, 0)
}

func TestPut(t *testing.T) {
	x := made(t, 2, 8, 2)
	ticked(t, x, 10, 0)
	w := index.Where{Seg: 7, At: 9, Size: 8}
	for _, c := range []struct {
		lane  int
		delay uint64
		size  int
		want  api.Errno
	}{
		{-1, 0, 0, api.ErrArg}, {2, 0, 0, api.ErrArg}, {math.MinInt, 0, 0, api.ErrArg}, {math.MaxInt, 0, 0, api.ErrArg}, {0, 0, -1, api.ErrArg}, {0, 0, 9, api.ErrArg},
		{0, most64, 9, api.ErrArg}, {0, most64, 8, api.ErrOver}, {0, most64 - 9, 8, api.ErrOver},
	} {
		if id, err := x.Put(c.lane, c.delay, index.Where{Size: c.size}); id != 0 || err != c.want {
			t.Errorf("Put(%v) = %d, %d", c, id, err)
		}
	}
	if !same(x.State(), index.State{Now: 10, Next: 1}) {
		t.Errorf("errors changed the queue: %v", x.State())
	}
	for i, c := range []struct {
		lane  int
		delay uint64
		want  index.Item
	}{
		{1, 0, index.Item{Id: 1, Lane: 1, Life: life.Life{Status: life.Ready}, Turn: 1, Where: w}},
		{0, 3, index.Item{Id: 2, Lane: 0, Life: life.Life{Status: life.Delayed, Due: 13}, Where: w}},
		{0, 0, index.Item{Id: 3, Lane: 0, Life: life.Life{Status: life.Ready}, Turn: 2, Where: w}},
		{0, most64 - 10, index.Item{Id: 4, Lane: 0, Life: life.Life{Status: life.Delayed, Due: most64}, Where: w}},
	} {
		id, err := x.Put(c.lane, c.delay, w)
		if it, is := x.Get(id); id != uint64(i+1) || err != api.OK || !is || it != c.want {
			t.Errorf("Put(%d, %d) = %d, %d: %v, want %v", c.lane, c.delay, id, err, it, c.want)
		}
	}
	if s := x.Stats(); s.Now != 10 || s.Next != 5 || !slices.Equal(s.Ready, []int{1, 1}) || s.Delayed != 2 || s.Leased != 0 || s.Dead != 0 {
		t.Errorf("Stats = %v", s)
	}
}

func TestMostLive(t *testing.T) {
	x := made(t, 1, 0, 1)
	died(t, x)
	for range 199 {
		put(t, x, 0, 0)
	}
	for delay, want := range map[uint64]api.Errno{0: api.ErrFull, most64: api.ErrFull} {
		if id, err := x.Put(0, delay, index.Where{}); id != 0 || err != want {
			t.Errorf("Put of one too many: %d, %d", id, err)
		}
	}
	if _, err := x.Put(1, 0, index.Where{}); err != api.ErrArg {
		t.Errorf("Put into no lane: %d", err)
	}
	fine(t, x.Purge(1))
	if id := put(t, x, 0, 0); id != 201 {
		t.Errorf("the next id is %d", id)
	}
	_, err := x.Ack(leased(t, x, 0, 1, 2))
	fine(t, err)
	put(t, x, 0, 0)
	if _, err := x.Put(0, 0, index.Where{}); err != api.ErrFull {
		t.Errorf("Put of one too many: %d", err)
	}
}

func TestTheLastId(t *testing.T) {
	x, err := index.From(index.Config{Lanes: 1, Payload: 0, Deliver: 1}, index.State{Next: most64})
	fine(t, err)
	if id := put(t, x, 0, 0); id != most64 {
		t.Errorf("the last id is %d", id)
	}
	if id, err := x.Put(0, 0, index.Where{}); id != 0 || err != api.ErrOver || x.Stats().Next != 0 {
		t.Errorf("Put without an id: %d, %d", id, err)
	}
	if _, err := x.Put(0, 0, index.Where{Size: 1}); err != api.ErrArg {
		t.Errorf("Put of too much, without an id: %d", err)
	}
	y, err := index.From(index.Config{Lanes: 1, Payload: 0, Deliver: 1}, x.State())
	fine(t, err)
	if !same(x.State(), y.State()) || !same(x.Copy().State(), x.State()) {
		t.Error("a queue without an id isn't made again")
	}
}

func TestLeasesErrors(t *testing.T) {
	x := made(t, 2, 0, 2)
	for _, c := range []struct {
		lane int
		span uint64
		want api.Errno
	}{{-2, 1, api.ErrArg}, {2, 1, api.ErrArg}, {math.MinInt, 1, api.ErrArg}, {math.MaxInt, 1, api.ErrArg}, {0, 0, api.ErrArg}, {-1, 0, api.ErrArg}, {-1, 1, api.ErrNone}, {1, most64, api.ErrNone}} {
		if it, err := x.Lease(c.lane, c.span); it != (index.Item{}) || err != c.want {
			t.Errorf("Lease(%d, %d) = %v, %d", c.lane, c.span, it, err)
		}
	}
	put(t, x, 1, 0)
	ticked(t, x, 1, 0)
	before := x.State()
	for _, c := range []struct {
		lane int
		span uint64
		want api.Errno
	}{{0, 1, api.ErrNone}, {0, most64, api.ErrNone}, {1, most64, api.ErrOver}, {-1, most64, api.ErrOver}, {1, 0, api.ErrArg}} {
		if it, err := x.Lease(c.lane, c.span); it != (index.Item{}) || err != c.want {
			t.Errorf("Lease(%d, %d) = %v, %d", c.lane, c.span, it, err)
		}
	}
	if !same(x.State(), before) {
		t.Errorf("errors changed the queue: %v", x.State())
	}
	it, err := x.Lease(1, most64-1)
	if want := (index.Item{Id: 1, Lane: 1, Life: life.Life{Status: life.Leased, Count: 1, Due: most64, Token: 1}}); it != want || err != api.OK {
		t.Errorf("Lease up to the last time: %v, %d", it, err)
	}
}

func TestLeasesOrder(t *testing.T) {
	x := made(t, 3, 0, 5)
	for _, lane := range []int{2, 1, 1, 0, 2} {
		put(t, x, lane, 0)
	}
	leased(t, x, 2, 1, 1)
	for i, id := range []uint64{4, 2, 3, 5} {
		if token := leased(t, x, -1, 1, id); token != uint64(i+2) {
			t.Errorf("the token of %d is %d", id, token)
		}
	}
	if _, err := x.Lease(-1, 1); err != api.ErrNone {
		t.Errorf("Lease of none: %d", err)
	}
}

func TestAck(t *testing.T) {
	x := made(t, 1, 8, 5)
	w := index.Where{Seg: 3, At: 4, Size: 5}
	_, err := x.Put(0, 0, w)
	fine(t, err)
	put(t, x, 0, 0)
	token := leased(t, x, 0, 5, 1)
	for _, wrong := range []uint64{0, 2, most64} {
		if it, err := x.Ack(wrong); it != (index.Item{}) || err != api.ErrToken {
			t.Errorf("Ack(%d) = %v, %d", wrong, it, err)
		}
	}
	it, err := x.Ack(token)
	if want := (index.Item{Id: 1, Life: life.Life{Status: life.Gone}, Where: w}); it != want || err != api.OK {
		t.Errorf("Ack = %v, %d", it, err)
	}
	if _, is := x.Get(1); is || x.Stats().Leased != 0 {
		t.Error("who is settled is there")
	}
	if _, err := x.Ack(token); err != api.ErrToken {
		t.Errorf("Ack again: %d", err)
	}
	ticked(t, x, 100, 0)
	leased(t, x, -1, 1, 2)
}

func TestNack(t *testing.T) {
	x := made(t, 1, 0, 2)
	put(t, x, 0, 0)
	put(t, x, 0, 0)
	first := leased(t, x, 0, 5, 1)
	ticked(t, x, 1, 0)
	before := x.State()
	if it, err := x.Nack(first, most64); it != (index.Item{}) || err != api.ErrOver || !same(x.State(), before) {
		t.Errorf("Nack for too long: %v, %d", it, err)
	}
	if it, err := x.Nack(first+1, most64); it != (index.Item{}) || err != api.ErrToken {
		t.Errorf("Nack of another token: %v, %d", it, err)
	}
	it, err := x.Nack(first, 0)
	if want := (index.Item{Id: 1, Life: life.Life{Status: life.Ready, Count: 1}, Turn: 3}); it != want || err != api.OK {
		t.Errorf("Nack = %v, %d, want %v", it, err, want)
	}
	if _, err := x.Nack(first, 0); err != api.ErrToken {
		t.Errorf("Nack again: %d", err)
	}
	second := leased(t, x, 0, 5, 2) // who was given back stands behind
	it, err = x.Nack(second, 4)
	if want := (index.Item{Id: 2, Life: life.Life{Status: life.Delayed, Count: 1, Due: 5}}); it != want || err != api.OK {
		t.Errorf("Nack with a delay = %v, %d, want %v", it, err, want)
	}
	it, err = x.Nack(leased(t, x, 0, 5, 1), most64)
	if want := (index.Item{Id: 1, Life: life.Life{Status: life.Dead, Count: 2}}); it != want || err != api.OK {
		t.Errorf("the last Nack = %v, %d, want %v", it, err, want)
	}
	if s := x.State(); s.Deaths != 1 || !slices.Equal(s.Dead, []dead.Row{{Id: 1, Place: 1}}) || x.Stats().Dead != 1 {
		t.Errorf("nobody is dead: %v", s)
	}
}

func TestExtend(t *testing.T) {
	x := made(t, 1, 0, 2)
	put(t, x, 0, 0)
	put(t, x, 0, 0)
	token := leased(t, x, 0, 5, 1)
	other := leased(t, x, 0, 4, 2)
	ticked(t, x, 2, 0)
	for _, c := range []struct {
		token, span uint64
		want        api.Errno
	}{{9, 0, api.ErrToken}, {0, 1, api.ErrToken}, {token, 0, api.ErrArg}, {token, most64, api.ErrOver}} {
		if it, err := x.Extend(c.token, c.span); it != (index.Item{}) || err != c.want {
			t.Errorf("Extend(%d, %d) = %v, %d", c.token, c.span, it, err)
		}
	}
	it, err := x.Extend(token, 10)
	if want := (index.Item{Id: 1, Life: life.Life{Status: life.Leased, Count: 1, Due: 12, Token: token}}); it != want || err != api.OK {
		t.Errorf("Extend = %v, %d", it, err)
	}
	ticked(t, x, 9, 1) // the other one's ends
	if _, err := x.Extend(other, 1); err != api.ErrToken {
		t.Errorf("Extend of a lease that ended: %d", err)
	}
	if _, err := x.Extend(token, 1); err != api.OK { // it may be shorter, too
		t.Errorf("Extend again: %d", err)
	}
	ticked(t, x, 1, 1)
}

func TestTick(t *testing.T) {
	x := made(t, 1, 0, 1)
	for _, delay := range []uint64{5, 3, 3, 7} {
		put(t, x, 0, delay)
	}
	ticked(t, x, 2, 0)
	ticked(t, x, 3, 3)
	for _, id := range []uint64{2, 3, 1} { // by Due, and by Id
		leased(t, x, 0, 4, id)
	}
	before := x.State()
	if many, err := x.Tick(most64 - 4); many != 0 || err != api.ErrOver || !same(x.State(), before) {
		t.Errorf("Tick above the last time: %d, %d", many, err)
	}
	_, err := x.Extend(2, 3)
	fine(t, err)
	ticked(t, x, 4, 4)
	if s := x.State(); !slices.Equal(s.Dead, []dead.Row{{Id: 3, Place: 1}, {Id: 1, Place: 2}, {Id: 2, Place: 3}}) {
		t.Errorf("the dead: %v", s.Dead)
	}
	ticked(t, x, most64-9, 0)
	if x.Stats().Now != most64 {
		t.Errorf("Now = %d", x.Stats().Now)
	}
	if _, err := x.Tick(1); err != api.ErrOver {
		t.Errorf("Tick behind the last time: %d", err)
	}
}

func TestReset(t *testing.T) {
	x := made(t, 2, 0, 2)
	for range 5 {
		put(t, x, 0, 0)
	}
	put(t, x, 1, 9)
	_, err := x.Nack(leased(t, x, 0, 9, 1), 0)
	fine(t, err)
	for i, span := range []uint64{6, 4, 4, 8} { // 2, 3, 4, 5
		leased(t, x, 0, span, uint64(i+2))
	}
	leased(t, x, 0, 5, 1) // for the second time
	x.Reset()
	s := x.State()
	if len(s.Dead) != 1 || s.Dead[0] != (dead.Row{Id: 1, Place: 1}) || s.Deaths != 1 || s.Leases != 6 || s.Turns != 10 {
		t.Errorf("Reset: %v", s)
	}
	if st := x.Stats(); !slices.Equal(st.Ready, []int{4, 0}) || st.Delayed != 1 || st.Leased != 0 || st.Dead != 1 {
		t.Errorf("Reset: %v", st)
	}
	for token := range uint64(7) {
		if _, err := x.Ack(token); err != api.ErrToken {
			t.Errorf("Ack(%d) behind Reset: %d", token, err)
		}
	}
	for _, id := range []uint64{3, 4, 2, 5} { // by Due, and by Id
		leased(t, x, 0, 1, id)
	}
	ticked(t, x, 9, 5)
}

func TestRequeueAndPurge(t *testing.T) {
	x := made(t, 1, 0, 1)
	for range 4 {
		died(t, x)
	}
	put(t, x, 0, 0)
	put(t, x, 0, 5)
	put(t, x, 0, 0)
	token := leased(t, x, 0, 5, 5)
	before := x.State()
	for _, id := range []uint64{0, 5, 6, 7, 8, most64} {
		if err := x.Requeue(id); err != api.ErrName {
			t.Errorf("Requeue(%d): %d", id, err)
		}
		if err := x.Purge(id); err != api.ErrName {
			t.Errorf("Purge(%d): %d", id, err)
		}
	}
	if !same(x.State(), before) {
		t.Error("errors changed the queue")
	}
	fine(t, x.Requeue(2))
	fine(t, x.Purge(3))
	if it, is := x.Get(2); !is || it != (index.Item{Id: 2, Life: life.Life{Status: life.Ready}, Turn: before.Turns + 1}) {
		t.Errorf("behind Requeue: %v", it)
	}
	if it, is := x.Get(3); is || it != (index.Item{}) || x.Requeue(3) != api.ErrName || x.Purge(2) != api.ErrName {
		t.Errorf("behind Purge: %v", it)
	}
	if s := x.State(); !slices.Equal(s.Dead, []dead.Row{{Id: 1, Place: 1}, {Id: 4, Place: 4}}) || s.Deaths != 4 {
		t.Errorf("the dead: %v", s.Dead)
	}
	_, err := x.Ack(token)
	fine(t, err)
	leased(t, x, -1, 1, 7)
	_, err = x.Nack(leased(t, x, -1, 1, 2), 0) // it was leased once since it was asked for
	fine(t, err)
	if s := x.State(); !slices.Equal(s.Dead, []dead.Row{{Id: 1, Place: 1}, {Id: 4, Place: 4}, {Id: 2, Place: 5}}) {
		t.Errorf("the dead: %v", s.Dead)
	}
}

func TestSeen(t *testing.T) {
	x := made(t, 1, 0, 1)
	for range 3 {
		died(t, x)
	}
	seen := func(name string, n int, want ...uint64) {
		t.Helper()
		if ids, err := x.Seen(name, n); !slices.Equal(ids, want) || err != api.OK {
			t.Errorf("Seen(%q, %d) = %v, %d", name, n, ids, err)
		}
	}
	seen("Ab", 2, 1, 2)
	fine(t, x.Purge(3))
	seen("ab", 2)
	seen("c", 9, 1, 2)
	for _, n := range []int{0, -1} {
		if ids, err := x.Seen("c", n); len(ids) != 0 || err != api.ErrArg {
			t.Errorf("Seen of %d: %v, %d", n, ids, err)
		}
	}
	if _, err := x.Seen("a b", 1); err != api.ErrArg {
		t.Errorf("Seen of no name: %d", err)
	}
	for i := range 6 {
		seen("n"+strconv.Itoa(i), 1, 1)
	}
	if _, err := x.Seen("z", 1); err != api.ErrFull {
		t.Errorf("Seen of one too many: %d", err)
	}
	if l := x.State().Cursors; len(l) != 8 || l[0] != (dead.Cursor{Name: "ab", Place: 2}) {
		t.Errorf("Cursors = %v", l)
	}
}

func TestPeek(t *testing.T) {
	x := made(t, 2, 8, 2)
	for _, lane := range []int{-2, 2, math.MinInt, math.MaxInt} {
		if it, err := x.Peek(lane); it != (index.Item{}) || err != api.ErrArg {
			t.Errorf("Peek(%d) = %v, %d", lane, it, err)
		}
	}
	for lane := -1; lane < 2; lane++ {
		if it, err := x.Peek(lane); it != (index.Item{}) || err != api.ErrNone {
			t.Errorf("Peek(%d) of none = %v, %d", lane, it, err)
		}
	}
	w := index.Where{Seg: 1, At: 2, Size: 3}
	_, err := x.Put(1, 0, w)
	fine(t, err)
	put(t, x, 1, 0)
	put(t, x, 0, 5)
	before := x.State()
	want := index.Item{Id: 1, Lane: 1, Life: life.Life{Status: life.Ready}, Turn: 1, Where: w}
	for _, lane := range []int{-1, 1} {
		if it, err := x.Peek(lane); it != want || err != api.OK {
			t.Errorf("Peek(%d) = %v, %d", lane, it, err)
		}
	}
	if _, err := x.Peek(0); err != api.ErrNone || !same(x.State(), before) {
		t.Errorf("Peek(0): %d", err)
	}
	ticked(t, x, 5, 1)
	if it, err := x.Peek(-1); it.Id != 3 || err != api.OK {
		t.Errorf("Peek of the lower lane: %v, %d", it, err)
	}
}

func TestNothingIsShared(t *testing.T) {
	x := made(t, 2, 0, 1)
	died(t, x)
	put(t, x, 1, 0)
	_, err := x.Seen("a", 1)
	fine(t, err)
	before := x.State()
	s := x.State()
	s.Items[0].Id, s.Dead[0].Id, s.Cursors[0].Name = 9, 9, "z"
	x.Stats().Ready[1] = 9
	if !same(x.State(), before) || x.Stats().Ready[1] != 1 {
		t.Error("an answer shares the queue")
	}
	s = x.State()
	y, err := index.From(index.Config{Lanes: 2, Payload: 0, Deliver: 1}, s)
	fine(t, err)
	s.Items[0].Id, s.Dead[0].Id, s.Cursors[0].Name = 9, 9, "z"
	z := x.Copy()
	leased(t, x, -1, 1, 2)
	fine(t, x.Purge(1))
	ticked(t, x, 5, 1)
	if !same(y.State(), before) || !same(z.State(), before) {
		t.Error("what is done with one is done with another one")
	}
	fine(t, z.Requeue(1))
	if !same(y.State(), before) {
		t.Error("what is done with a copy is done with another one")
	}
}
