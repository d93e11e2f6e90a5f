package queue_test

import (
	"bytes"
	"maps"
	"math"
	"math/rand/v2"
	"slices"
	"strconv"
	"strings"
	"testing"

	"tumbrel/api"
	"tumbrel/disk"
	"tumbrel/index"
	"tumbrel/queue"
	"tumbrel/store"
)

const most64 = math.MaxUint64

func fine(t *testing.T, l ...api.Errno) {
	t.Helper()
	for i, err := range l {
		if err != api.OK {
			t.Fatalf("call %d: error %d", i+1, err)
		}
	}
}

func config(lanes, payload, deliver, segment int) store.Config {
	return store.Config{Queue: index.Config{Lanes: lanes, Payload: payload, Deliver: deliver}, Segment: segment}
}

// made is a queue of 2 lanes, payloads of 8 bytes and 2 leases, on a disk with much room.
func made(t *testing.T) (*disk.Disk, *queue.Queue) {
	t.Helper()
	return madeOf(t, 100000, config(2, 8, 2, 64))
}

func madeOf(t *testing.T, room int, c store.Config) (*disk.Disk, *queue.Queue) {
	t.Helper()
	d, err := disk.New(room)
	fine(t, err)
	q, err := queue.New(d, c)
	fine(t, err)
	return d, q
}

func put(t *testing.T, q *queue.Queue, lane int, delay uint64, payload string) uint64 {
	t.Helper()
	id, err := q.Enqueue(lane, delay, []byte(payload))
	fine(t, err)
	return id
}

func same(a, b queue.Message) bool {
	return a.Id == b.Id && a.Token == b.Token && a.Lane == b.Lane && a.Count == b.Count && bytes.Equal(a.Payload, b.Payload)
}

func leased(t *testing.T, q *queue.Queue, lane int, span uint64, want queue.Message) {
	t.Helper()
	if m, err := q.Lease(lane, span); !same(m, want) || err != api.OK {
		t.Fatalf("Lease(%d, %d) = %v, %d, want %v", lane, span, m, err, want)
	}
}

func message(id, token uint64, lane, count int, payload string) queue.Message {
	return queue.Message{Id: id, Token: token, Lane: lane, Count: count, Payload: []byte(payload)}
}

func TestNewAndOpen(t *testing.T) {
	for _, f := range []func() (*queue.Queue, api.Errno){
		func() (*queue.Queue, api.Errno) { return queue.New(nil, config(2, 8, 2, 64)) },
		func() (*queue.Queue, api.Errno) { return queue.New(nil, store.Config{}) },
		func() (*queue.Queue, api.Errno) { return queue.Open(nil) },
	} {
		if q, err := f(); q != nil || err != api.ErrArg {
			t.Errorf("without a disk: %d", err)
		}
	}
	d, _ := disk.New(1000)
	if q, err := queue.Open(d); q != nil || err != api.ErrName {
		t.Errorf("Open of an empty disk: %d", err)
	}
	for _, c := range []store.Config{{}, config(9, 8, 2, 64), config(2, 65, 2, 64), config(2, 8, 21, 64), config(2, 8, 2, 63)} {
		if q, err := queue.New(d, c); q != nil || err != api.ErrArg {
			t.Errorf("New(%v): %d", c, err)
		}
	}
	q, err := queue.New(d, config(2, 8, 2, 64))
	fine(t, err)
	if s := q.Stats(); s.Now != 0 || s.Next != 1 || len(s.Ready) != 2 {
		t.Errorf("Stats = %v", s)
	}
	if q, err := queue.New(d, config(2, 8, 2, 64)); q != nil || err != api.ErrTwice {
		t.Errorf("New again: %d", err)
	}
	put(t, q, 0, 0, "a")
	q, err = queue.Open(d)
	fine(t, err)
	leased(t, q, -1, 5, message(1, 1, 0, 1, "a"))
	d.Fuse(0)
	d.DirSync()
	if q, err := queue.Open(d); q != nil || err != api.ErrDown {
		t.Errorf("Open without power: %d", err)
	}
	small, _ := disk.New(16)
	if q, err := queue.New(small, config(2, 8, 2, 64)); q != nil || err != api.ErrFull {
		t.Errorf("New on a small disk: %d", err)
	}
}

func TestEnqueue(t *testing.T) {
	_, q := made(t)
	for i, c := range []struct {
		lane    int
		delay   uint64
		payload string
	}{{0, 0, "a"}, {1, 5, ""}, {1, most64, "12345678"}} {
		if id := put(t, q, c.lane, c.delay, c.payload); id != uint64(i+1) {
			t.Errorf("the id is %d", id)
		}
	}
	for _, c := range []struct {
		lane    int
		delay   uint64
		payload string
	}{{2, 0, ""}, {-1, 0, ""}, {8, 0, ""}, {math.MinInt, 0, ""}, {math.MaxInt, 0, ""}, {0, 0, "123456789"}, {0, 0, strings.Repeat("x", 1000)}} {
		if id, err := q.Enqueue(c.lane, c.delay, []byte(c.payload)); id != 0 || err != api.ErrArg {
			t.Errorf("Enqueue(%v) = %d, %d", c, id, err)
		}
	}
	if s := q.Stats(); s.Next != 4 || s.Delayed != 2 || !slices.Equal(s.Ready, []int{1, 0}) {
		t.Errorf("Stats = %v", s)
	}
	_, err := q.Tick(1)
	fine(t, err)
	if id, err := q.Enqueue(0, most64, nil); id != 0 || err != api.ErrOver {
		t.Errorf("Enqueue for too long: %d, %d", id, err)
	}
}

func TestLeaseAckNackExtend(t *testing.T) {
	_, q := made(t)
	put(t, q, 1, 0, "one")
	put(t, q, 0, 0, "two")
	for _, c := range []struct {
		lane int
		span uint64
		want api.Errno
	}{{2, 1, api.ErrArg}, {-2, 1, api.ErrArg}, {8, 1, api.ErrArg}, {0, 0, api.ErrArg}} {
		if m, err := q.Lease(c.lane, c.span); !same(m, queue.Message{}) || err != c.want {
			t.Errorf("Lease(%v) = %v, %d", c, m, err)
		}
	}
	leased(t, q, -1, 5, message(2, 1, 0, 1, "two")) // the lower lane's first
	leased(t, q, 1, 5, message(1, 2, 1, 1, "one"))
	if m, err := q.Lease(-1, 5); !same(m, queue.Message{}) || err != api.ErrNone {
		t.Errorf("Lease of none = %v, %d", m, err)
	}
	fine(t, q.Ack(1), q.Extend(2, 9))
	for _, err := range []api.Errno{q.Ack(1), q.Ack(0), q.Nack(1, 0), q.Nack(3, 0), q.Extend(1, 1), q.Extend(3, 0)} {
		if err != api.ErrToken {
			t.Errorf("of no lease: %d", err)
		}
	}
	if err := q.Extend(2, 0); err != api.ErrArg {
		t.Errorf("Extend for 0: %d", err)
	}
	if many, err := q.Tick(8); many != 0 || err != api.OK {
		t.Errorf("Tick = %d, %d", many, err)
	}
	fine(t, q.Nack(2, 3))
	if many, err := q.Tick(3); many != 1 || err != api.OK {
		t.Errorf("Tick = %d, %d", many, err)
	}
	leased(t, q, -1, 5, message(1, 3, 1, 2, "one"))
	if many, err := q.Tick(most64); many != 0 || err != api.ErrOver {
		t.Errorf("Tick for too long = %d, %d", many, err)
	}
	if many, err := q.Tick(5); many != 1 || err != api.OK || q.Stats().Dead != 1 {
		t.Errorf("Tick = %d, %d", many, err)
	}
}

// died puts a message, and gives it back as often as it is leased.
func died(t *testing.T, q *queue.Queue, payload string, times int) uint64 {
	t.Helper()
	id := put(t, q, 0, 0, payload)
	for range times {
		m, err := q.Lease(0, 1)
		fine(t, err, q.Nack(m.Token, 0))
	}
	return id
}

func TestDeadNextRequeuePurge(t *testing.T) {
	_, q := made(t)
	if l := q.Dead(); len(l) != 0 {
		t.Errorf("Dead = %v", l)
	}
	for i := range 4 {
		died(t, q, strconv.Itoa(i), 2)
	}
	dead := func(want ...uint64) {
		t.Helper()
		if l := q.Dead(); !slices.Equal(l, want) {
			t.Errorf("Dead = %v, want %v", l, want)
		}
	}
	next := func(name string, n int, wantErr api.Errno, want ...uint64) {
		t.Helper()
		if l, err := q.Next(name, n); !slices.Equal(l, want) || err != wantErr {
			t.Errorf("Next(%q, %d) = %v, %d, want %v, %d", name, n, l, err, want, wantErr)
		}
	}
	dead(1, 2, 3, 4)
	next("a", 2, api.OK, 1, 2)
	next("A", 9, api.OK, 3, 4)
	next("a", 1, api.OK)
	next("b", math.MaxInt, api.OK, 1, 2, 3, 4)
	for _, n := range []int{0, -1, math.MinInt} {
		next("c", n, api.ErrArg)
	}
	for _, name := range []string{"", "a b", "abcdefghi", strings.Repeat("x", 64), strings.Repeat("x", 65), strings.Repeat("x", 5000)} {
		next(name, 1, api.ErrArg)
	}
	fine(t, q.Requeue(2), q.Purge(1))
	for _, err := range []api.Errno{q.Requeue(2), q.Purge(2), q.Requeue(1), q.Purge(1), q.Purge(0), q.Requeue(99)} {
		if err != api.ErrName {
			t.Errorf("of who isn't dead: %d", err)
		}
	}
	dead(3, 4)
	leased(t, q, -1, 5, message(2, 9, 0, 1, "1")) // it may be leased twice again
	fine(t, q.Nack(9, 0))
	leased(t, q, -1, 5, message(2, 10, 0, 2, "1"))
	fine(t, q.Nack(10, 0))
	dead(3, 4, 2)
	next("a", 5, api.OK, 2)
	for i := range 6 {
		next("n"+strconv.Itoa(i), 1, api.OK, 3)
	}
	next("z", 1, api.ErrFull)
}

func TestDrain(t *testing.T) {
	_, q := made(t)
	for i := range 5 {
		put(t, q, i%2, 0, strconv.Itoa(i))
	}
	drained := func(lane int, span uint64, most int, wantErr api.Errno, want ...queue.Message) {
		t.Helper()
		if l, err := q.Drain(lane, span, most); !slices.EqualFunc(l, want, same) || err != wantErr {
			t.Errorf("Drain(%d, %d, %d) = %v, %d, want %v, %d", lane, span, most, l, err, want, wantErr)
		}
	}
	for _, most := range []int{0, -1, math.MinInt} {
		drained(0, 5, most, api.OK)
		drained(9, 0, most, api.OK)
	}
	drained(2, 5, 1, api.ErrArg)
	drained(0, 0, 1, api.ErrArg)
	drained(-1, 5, 2, api.OK, message(1, 1, 0, 1, "0"), message(3, 2, 0, 1, "2"))
	if s := q.Stats(); s.Leased != 2 {
		t.Errorf("Drain of 2 leased %d", s.Leased)
	}
	drained(1, 5, 9, api.OK, message(2, 3, 1, 1, "1"), message(4, 4, 1, 1, "3"))
	drained(-1, 5, math.MaxInt, api.OK, message(5, 5, 0, 1, "4"))
	drained(-1, 5, 1, api.OK)
}

func TestDrainTellsWhatWasLeasedBesideAnError(t *testing.T) {
	d, q := made(t)
	for i := range 4 {
		put(t, q, 0, 0, strconv.Itoa(i))
	}
	d.Fuse(2)
	l, err := q.Drain(0, 5, 9)
	if !slices.EqualFunc(l, []queue.Message{message(1, 1, 0, 1, "0"), message(2, 2, 0, 1, "1")}, same) || err != api.ErrDown || q.Stats().Leased != 2 {
		t.Errorf("Drain, the power going: %v, %d", l, err)
	}
	if l, err := q.Drain(0, 5, 9); len(l) != 0 || err != api.ErrDown {
		t.Errorf("Drain without power: %v, %d", l, err)
	}
	d, q = made(t)
	for i := range 2 {
		put(t, q, 0, 0, strconv.Itoa(i))
	}
	d.Fuse(2)
	if l, err := q.Drain(0, 5, 2); len(l) != 2 || err != api.OK {
		t.Errorf("Drain of as many as there is power for: %v, %d", l, err)
	}
	d.Fuse(0)
	if l, err := q.Drain(0, 5, 2); len(l) != 0 || err != api.OK {
		t.Errorf("Drain of none: %v, %d", l, err)
	}
	b := bytes.Repeat([]byte{1}, 0)
	if _, err := q.Enqueue(0, 0, b); err != api.ErrDown {
		t.Errorf("Enqueue, the power going: %d", err)
	}
}

func TestPeek(t *testing.T) {
	d, q := made(t)
	peeked := func(lane int, wantErr api.Errno, want queue.Message) {
		t.Helper()
		if m, err := q.Peek(lane); !same(m, want) || err != wantErr {
			t.Errorf("Peek(%d) = %v, %d, want %v, %d", lane, m, err, want, wantErr)
		}
	}
	for _, lane := range []int{-2, 2, 8, math.MinInt, math.MaxInt} {
		peeked(lane, api.ErrArg, queue.Message{})
	}
	for lane := -1; lane < 2; lane++ {
		peeked(lane, api.ErrNone, queue.Message{})
	}
	put(t, q, 1, 0, "one")
	put(t, q, 1, 0, "two")
	put(t, q, 0, 3, "three")
	peeked(-1, api.OK, message(1, 0, 1, 0, "one"))
	peeked(1, api.OK, message(1, 0, 1, 0, "one"))
	peeked(0, api.ErrNone, queue.Message{})
	leased(t, q, 1, 9, message(1, 1, 1, 1, "one"))
	peeked(-1, api.OK, message(2, 0, 1, 0, "two"))
	fine(t, q.Nack(1, 0))
	peeked(-1, api.OK, message(2, 0, 1, 0, "two")) // who was given back stands behind
	leased(t, q, -1, 9, message(2, 2, 1, 1, "two"))
	peeked(-1, api.OK, message(1, 0, 1, 1, "one"))
	_, err := q.Tick(3)
	fine(t, err)
	peeked(-1, api.OK, message(3, 0, 0, 0, "three"))
	peeked(1, api.OK, message(1, 0, 1, 1, "one"))
	if s := q.Stats(); s.Leased != 1 || !slices.Equal(s.Ready, []int{1, 1}) {
		t.Errorf("Peek changed something: %v", s)
	}
	d.Fuse(0)
	peeked(0, api.OK, message(3, 0, 0, 0, "three"))
	d.DirSync()
	peeked(0, api.ErrDown, queue.Message{})
	peeked(2, api.ErrArg, queue.Message{})
}

func TestPeekOfAMessageThatWasTurned(t *testing.T) {
	d, q := made(t)
	put(t, q, 0, 0, "one")
	b, _ := d.Read("m.1")
	b[8] ^= 1
	fine(t, d.Cut("m.1", 0), d.Append("m.1", b))
	if m, err := q.Peek(0); !same(m, queue.Message{}) || err != api.ErrSum {
		t.Errorf("Peek = %v, %d", m, err)
	}
	if m, err := q.Lease(0, 1); !same(m, queue.Message{}) || err != api.ErrSum || q.Stats().Ready[0] != 1 {
		t.Errorf("Lease = %v, %d", m, err)
	}
	if l, err := q.Drain(-1, 1, 5); len(l) != 0 || err != api.ErrSum {
		t.Errorf("Drain = %v, %d", l, err)
	}
}

func TestSyncAndPack(t *testing.T) {
	d, q := made(t)
	put(t, q, 0, 0, "sure")
	fine(t, q.Sync())
	put(t, q, 0, 0, "not sure")
	d.Crash(0, nil)
	q, err := queue.Open(d)
	fine(t, err)
	if s := q.Stats(); s.Next != 2 || s.Ready[0] != 1 {
		t.Errorf("behind a crash: %v", s)
	}
	leased(t, q, -1, 5, message(1, 1, 0, 1, "sure"))
	fine(t, q.Ack(1), q.Pack())
	if strings.Join(d.Names(), " ") != "e.2 m.1 root s.2" {
		t.Errorf("packed: %v", d.Names())
	}
	d.Crash(0, nil)
	q, err = queue.Open(d)
	fine(t, err)
	if m, err := q.Lease(-1, 5); err != api.ErrNone {
		t.Errorf("who was acknowledged comes again: %v, %d", m, err)
	}
	d.Fuse(0)
	for i, err := range []api.Errno{q.Sync(), q.Sync(), q.Pack()} {
		if err != api.ErrDown {
			t.Errorf("call %d without power: %d", i, err)
		}
	}
}

func TestAFullDisk(t *testing.T) {
	_, q := madeOf(t, 400, config(1, 8, 2, 64))
	n := 0
	for {
		id, err := q.Enqueue(0, 0, []byte("12345678"))
		if err == api.ErrFull {
			if id != 0 {
				t.Errorf("the id beside an error is %d", id)
			}
			break
		}
		fine(t, err)
		n++
	}
	before := q.Stats()
	if _, err := q.Enqueue(0, 0, []byte("12345678")); err != api.ErrFull || before.Ready[0] != n {
		t.Errorf("%d were put, and %d are there", n, before.Ready[0])
	}
	if m, err := q.Peek(0); m.Id != 1 || err != api.OK {
		t.Errorf("Peek of a full disk: %v, %d", m, err)
	}
	if m, err := q.Lease(0, 1); err != api.OK && err != api.ErrFull || err == api.OK && string(m.Payload) != "12345678" {
		t.Errorf("Lease of a full disk: %v, %d", m, err)
	}
}

func TestNothingIsShared(t *testing.T) {
	_, q := made(t)
	p := []byte("one")
	_, err := q.Enqueue(0, 0, p)
	fine(t, err)
	p[0] = 'x'
	m, _ := q.Peek(0)
	m.Payload[0] = 'y'
	put(t, q, 0, 0, "two")
	l, err := q.Drain(0, 5, 2)
	fine(t, err)
	if string(l[0].Payload) != "one" || string(p) != "xne" {
		t.Errorf("the payload is %q", l[0].Payload)
	}
	_ = append(l[0].Payload, "zzzzzzzzz"...)
	l[0].Payload[0] = 'z'
	if string(l[1].Payload) != "two" {
		t.Errorf("two payloads share: %q", l[1].Payload)
	}
	q.Stats().Ready[0] = 9
	died(t, q, "", 2)
	q.Dead()[0] = 9
	if q.Stats().Ready[0] != 0 || q.Dead()[0] != 3 {
		t.Error("an answer shares the queue")
	}
}

// Who is given back each time is dead behind just so many leases as are set.
func TestDeliver(t *testing.T) {
	for deliver := 1; deliver <= 20; deliver++ {
		_, q := madeOf(t, 100000, config(1, 8, deliver, 64))
		put(t, q, 0, 0, "a")
		for n := range deliver {
			leased(t, q, -1, 3, message(1, uint64(n+1), 0, n+1, "a"))
			if len(q.Dead()) != 0 {
				t.Fatalf("dead behind %d of %d leases", n, deliver)
			}
			switch n % 3 {
			case 0:
				fine(t, q.Nack(uint64(n+1), 0))
			case 1:
				fine(t, q.Nack(uint64(n+1), 1))
				_, err := q.Tick(1)
				fine(t, err)
			case 2:
				_, err := q.Tick(3)
				fine(t, err)
			}
		}
		if l := q.Dead(); !slices.Equal(l, []uint64{1}) {
			t.Fatalf("dead behind %d leases: %v", deliver, l)
		}
	}
}

// What Peek tells is leased next; no id has two leases that last; each comes within as many leases as there are, if all others are acked.
func TestEachComes(t *testing.T) {
	for seed := range 60 {
		r := rand.New(rand.NewPCG(23, uint64(seed)))
		_, q := madeOf(t, 100000, config(2, 8, 3, 64))
		held := map[uint64]uint64{} // by id, the token of the lease that lasts
		for range 60 {
			switch r.IntN(6) {
			case 0, 1:
				put(t, q, r.IntN(2), r.Uint64N(4), "p")
			case 2, 3:
				lane := r.IntN(3) - 1
				seen, err := q.Peek(lane)
				m, err2 := q.Lease(lane, most64/2)
				if err != err2 || m.Id != seen.Id || err == api.OK && (m.Count != seen.Count+1 || !bytes.Equal(m.Payload, seen.Payload) || seen.Token != 0) {
					t.Fatalf("Peek: %v, %d; Lease: %v, %d", seen, err, m, err2)
				}
				if _, twice := held[m.Id]; twice && err == api.OK {
					t.Fatalf("%d is leased twice", m.Id)
				}
				if err == api.OK {
					held[m.Id] = m.Token
				}
			case 4:
				if len(held) > 0 {
					id := slices.Min(slices.Collect(maps.Keys(held)))
					fine(t, q.Nack(held[id], r.Uint64N(3)))
					delete(held, id)
				}
			case 5:
				_, err := q.Tick(1)
				fine(t, err)
			}
		}
		for _, token := range held {
			fine(t, q.Nack(token, 0))
		}
		_, err := q.Tick(10)
		fine(t, err)
		s := q.Stats()
		ready := s.Ready[0] + s.Ready[1]
		for n := range ready {
			m, err := q.Lease(-1, 5)
			if err != api.OK {
				t.Fatalf("seed %d: lease %d of %d: %d", seed, n, ready, err)
			}
			fine(t, q.Ack(m.Token))
		}
		if s := q.Stats(); s.Delayed+s.Leased+s.Ready[0]+s.Ready[1] != 0 {
			t.Fatalf("seed %d: who is left: %v", seed, s)
		}
	}
}
