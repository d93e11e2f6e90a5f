package store_test

import (
	"bytes"
	"math/rand/v2"
	"slices"
	"strconv"
	"testing"

	"tumbrel/api"
	"tumbrel/disk"
	"tumbrel/index"
	"tumbrel/op"
	"tumbrel/record"
	"tumbrel/snap"
	"tumbrel/store"
)

// twin is a queue that never crashes, with its payloads.
type twin struct {
	x        *index.Index
	payloads map[uint64]string
}

func twinOf(t *testing.T, c store.Config) *twin {
	t.Helper()
	x, err := index.New(c.Queue)
	fine(t, err)
	return &twin{x, map[uint64]string{}}
}

// some is an act, mostly one that may be.
func some(r *rand.Rand, lanes int) (op.Op, string) {
	n := r.Uint64N(40)
	switch r.IntN(14) {
	case 0, 1, 2, 3:
		return put(r.IntN(lanes+1), r.Uint64N(3)), strconv.Itoa(r.IntN(10000000))[:1]
	case 4, 5, 6:
		return lease(r.IntN(lanes+1)-1, 1+r.Uint64N(5)), ""
	case 7, 8:
		return ack(n), ""
	case 9:
		return nack(n, r.Uint64N(3)), ""
	case 10:
		return op.Op{Do: record.Extend, Id: n, N: r.Uint64N(4)}, ""
	case 11:
		return tick(r.Uint64N(4)), ""
	case 12:
		return op.Op{Do: record.Requeue + r.IntN(2), Id: n}, ""
	default:
		return op.Op{Do: record.Seen, N: r.Uint64N(4), Name: string(rune('a' + r.IntN(3)))}, ""
	}
}

// do does an act with a twin.
func (w *twin) do(o op.Op, payload string) op.Answer {
	if o.Do == record.Put {
		o.Where.Size = len(payload)
	}
	a := op.Do(w.x, o)
	if o.Do == record.Put && a.Err == api.OK {
		w.payloads[a.Id] = payload
	}
	return a
}

// noWhere is a state without the places of payloads.
func noWhere(s index.State) index.State {
	s.Items = slices.Clone(s.Items)
	for i := range s.Items {
		s.Items[i].Where.Seg, s.Items[i].Where.At = 0, 0
	}
	return s
}

// agree fails the test, if a queue on a disk isn't as its twin, payload by payload.
func agree(t *testing.T, s *store.Store, w *twin) {
	t.Helper()
	if got, want := noWhere(s.State()), w.x.State(); !sameState(got, want) {
		t.Fatalf("State = %v, want %v", got, want)
	}
	for _, it := range s.State().Items {
		if b, err := s.Payload(it.Id); err != api.OK || string(b) != w.payloads[it.Id] {
			t.Fatalf("Payload(%d) = %q, %d, want %q", it.Id, b, err, w.payloads[it.Id])
		}
	}
}

// packed fails the test, if a segment but the last one has no message.
func packed(t *testing.T, d *disk.Disk, s *store.Store) {
	t.Helper()
	have, in := segs(d), snap.Segs(s.State().Items)
	for _, n := range have[:len(have)-1] {
		if !slices.Contains(in, n) {
			t.Fatalf("nobody is in the segment %d of %v", n, have)
		}
	}
}

func TestAsOneThatNeverCrashes(t *testing.T) {
	for seed := range 60 {
		r := rand.New(rand.NewPCG(18, uint64(seed)))
		c := store.Config{Queue: index.Config{Lanes: 1 + r.IntN(3), Payload: 2, Deliver: 1 + r.IntN(3)}, Segment: 64 + r.IntN(100)}
		d, s := begun(t, 100000, c)
		w := twinOf(t, c)
		for range 250 {
			switch r.IntN(25) {
			case 0:
				fine(t, s.Sync())
			case 1:
				fine(t, s.Pack())
				packed(t, d, s)
			case 2:
				s = opened(t, d)
				w.x.Reset()
			}
			o, payload := some(r, c.Queue.Lanes)
			a, told := s.Do(o, []byte(payload))
			want := w.do(o, payload)
			if o.Do == record.Lease && a.Err == api.OK && string(told) != w.payloads[a.Id] || o.Do != record.Lease && len(told) > 0 {
				t.Fatalf("seed %d: %v: told %q", seed, o, told)
			}
			if it, is := find(s.State(), a.Id); is && a.Where != (index.Where{}) && a.Where != it.Where {
				t.Fatalf("seed %d: %v: %v, and it stands at %v", seed, o, a.Where, it.Where)
			}
			a.Where.Seg, a.Where.At = 0, 0
			if !op.Same(a, want) {
				t.Fatalf("seed %d: %v: %v, want %v", seed, o, a, want)
			}
			agree(t, s, w)
		}
	}
}

func find(s index.State, id uint64) (index.Item, bool) {
	i := slices.IndexFunc(s.Items, func(it index.Item) bool { return it.Id == id })
	if i < 0 {
		return index.Item{}, false
	}
	return s.Items[i], true
}

// On a disk with little room each answer is its twin's, or that there is no room, and then nothing is done.
func TestWithLittleRoom(t *testing.T) {
	full, packs := 0, 0
	for seed := range 60 {
		r := rand.New(rand.NewPCG(19, uint64(seed)))
		c := store.Config{Queue: index.Config{Lanes: 2, Payload: 2, Deliver: 2}, Segment: 64}
		room := 250 + r.IntN(600)
		d, s := begun(t, room, c)
		w := twinOf(t, c)
		for range 200 {
			o, payload := some(r, 2)
			a, _ := s.Do(o, []byte(payload))
			if a.Err == api.ErrFull {
				full++
			} else if want := w.do(o, payload); a.Err != want.Err || a.Id != want.Id || a.Token != want.Token {
				t.Fatalf("seed %d: %v: %v, want %v", seed, o, a, want)
			}
			agree(t, s, w)
			if d.Held() > room {
				t.Fatalf("seed %d: %d held", seed, d.Held())
			}
			switch gen := s.Root().Gen; r.IntN(30) {
			case 0:
				s = opened(t, d)
				w.x.Reset()
			case 1, 2:
				if err := s.Pack(); err == api.OK {
					packs++
					packed(t, d, s)
				} else if err != api.ErrFull || s.Root().Gen != gen {
					t.Fatalf("seed %d: Pack: %d", seed, err)
				}
			}
		}
	}
	if full == 0 || packs == 0 {
		t.Errorf("%d times without room, %d times packed", full, packs)
	}
}

// past is what a queue was when it was last sure, and behind each act since.
type past struct{ states []index.State }

func (p *past) begin(w *twin) { p.states = []index.State{w.x.State()} }

// crash crashes a disk by chance, opens it, and tells the queue, which must be one of the past, reset.
func crash(t *testing.T, r *rand.Rand, d *disk.Disk, c store.Config, w *twin, p *past) *store.Store {
	t.Helper()
	for {
		tails := make([]int, 12)
		for i := range tails {
			tails[i] = r.IntN(90) * r.IntN(2) * (1 + 9*r.IntN(2))
		}
		d.Crash(r.IntN(12)-1, tails)
		if r.IntN(3) == 0 {
			d.Fuse(r.IntN(8)) // it may crash again while it is opened
		}
		s, err := store.Open(d)
		if err == api.ErrDown {
			continue
		}
		if err != api.OK {
			t.Fatalf("Open behind a crash: %d", err)
		}
		d.Fuse(-1)
		got := noWhere(s.State())
		for _, state := range slices.Backward(p.states) {
			x, err := index.From(c.Queue, state)
			fine(t, err)
			x.Reset()
			if sameState(x.State(), got) {
				w.x = x
				p.begin(w)
				agree(t, s, w)
				return s
			}
		}
		t.Fatalf("behind a crash: %v, which it never was: %v", got, p.states)
	}
}

func TestWhateverCrashes(t *testing.T) {
	for seed := range 400 {
		r := rand.New(rand.NewPCG(20, uint64(seed)))
		c := store.Config{Queue: index.Config{Lanes: 2, Payload: 2, Deliver: 2}, Segment: 64}
		room := 100000
		if seed%4 == 0 {
			room = 400 + r.IntN(600)
		}
		d, s := begun(t, room, c)
		w := twinOf(t, c)
		p := &past{}
		p.begin(w)
		d.Fuse(r.IntN(60))
		for range 120 {
			err := api.OK
			switch r.IntN(18) {
			case 0, 1:
				if err = s.Sync(); err == api.OK {
					p.begin(w)
				}
			case 2:
				if err = s.Pack(); err == api.OK {
					p.begin(w)
				}
			case 3:
				var again *store.Store
				if again, err = store.Open(d); err == api.OK {
					s = again
					w.x.Reset()
					p.begin(w)
				}
			default:
				o, payload := some(r, 2)
				a, _ := s.Do(o, []byte(payload))
				if err = a.Err; err != api.ErrDown && err != api.ErrFull {
					w.do(o, payload)
					p.states = append(p.states, w.x.State())
				}
			}
			if err == api.ErrDown || r.IntN(40) == 0 {
				s = crash(t, r, d, c, w, p)
				d.Fuse(r.IntN(60))
			}
			if d.Held() > room {
				t.Fatalf("seed %d: %d held", seed, d.Held())
			}
		}
	}
}

// Wherever the power goes while it is packed, or opened, and however it crashes then: it is opened as it was.
func TestEachCrashOfPackAndOpen(t *testing.T) {
	c := store.Config{Queue: index.Config{Lanes: 2, Payload: 2, Deliver: 2}, Segment: 64}
	build := func() (*disk.Disk, *store.Store, *twin) {
		d, s := begun(t, 100000, c)
		w := twinOf(t, c)
		both := func(o op.Op, payload string) {
			done(t, s, o, payload)
			w.do(o, payload)
		}
		for i := range 12 {
			both(put(i%2, 0), strconv.Itoa(i))
		}
		for token := range uint64(7) {
			both(lease(-1, 9), "")
			both(ack(token+1), "")
		}
		fine(t, s.Sync())
		return d, s, w
	}
	for _, what := range []func(*disk.Disk, *store.Store) api.Errno{
		func(_ *disk.Disk, s *store.Store) api.Errno { return s.Pack() },
		func(d *disk.Disk, _ *store.Store) api.Errno { _, err := store.Open(d); return err },
	} {
		err := api.ErrDown
		for n := 0; err != api.OK; n++ {
			for open := range 12 {
				for _, tail := range []int{0, 7, 1000} {
					d, s, w := build()
					d.Fuse(n)
					err = what(d, s)
					d.Crash(open, slices.Repeat([]int{tail}, 12))
					agree(t, opened(t, d), w)
				}
			}
		}
	}
}

// Where bits of a file are turned, Open has an error, or the state is the same, and no payload is another one.
func TestTurnedBits(t *testing.T) {
	d, s := begun(t, 10000, set)
	for i := range 6 {
		done(t, s, put(i%2, uint64(i%3)), strconv.Itoa(1000*i))
	}
	done(t, s, lease(0, 5), "")
	fine(t, s.Pack())
	done(t, s, put(0, 0), "behind")
	done(t, s, ack(1), "")
	fine(t, s.Sync())
	whole := files(t, d)
	s = opened(t, d)
	want, payloads := s.State(), map[uint64]string{}
	for _, it := range want.Items {
		b, err := s.Payload(it.Id)
		fine(t, err)
		payloads[it.Id] = string(b)
	}
	r := rand.New(rand.NewPCG(21, 1))
	refused, same := 0, 0
	for _, name := range d.Names() {
		for from := range 8 * len(whole[name]) {
			b, burst := []byte(whole[name]), r.Uint32()>>r.UintN(32)|1
			for i := range 32 {
				if at := from + i; burst>>i&1 == 1 && at < 8*len(b) {
					b[at/8] ^= 1 << (at % 8)
				}
			}
			m := files(t, laid(t, whole))
			m[name] = string(b)
			u, err := store.Open(laid(t, m))
			if err != api.OK {
				refused++
				continue
			}
			same++
			if !sameState(u.State(), want) {
				t.Fatalf("%s, turned from %d: %v, want %v", name, from, u.State(), want)
			}
			for id, payload := range payloads {
				if b, err := u.Payload(id); err == api.OK && string(b) != payload || err != api.OK && len(b) > 0 {
					t.Fatalf("%s, turned from %d: Payload(%d) = %q", name, from, id, b)
				}
			}
		}
	}
	if refused == 0 || same == 0 {
		t.Errorf("%d refused, %d the same", refused, same)
	}
}

// More room changes nothing, where there was enough.
func TestMoreRoomChangesNothing(t *testing.T) {
	answers := func(room int) ([]byte, bool) {
		r := rand.New(rand.NewPCG(22, 1))
		d, s := begun(t, room, set)
		var all []byte
		for range 150 {
			o, payload := some(r, 2)
			a, told := s.Do(o, []byte(payload))
			if a.Err == api.ErrFull {
				return nil, false
			}
			all = append(all, told...)
			all = strconv.AppendInt(all, int64(a.Err), 10)
			all = strconv.AppendUint(all, a.Id+a.Token+a.Where.At, 10)
			if r.IntN(20) == 0 {
				fine(t, s.Pack())
			}
		}
		return strconv.AppendInt(all, int64(d.Held()), 10), true
	}
	want, enough := answers(1048576)
	if !enough {
		t.Fatal("the most room isn't enough")
	}
	for _, room := range []int{20000, 50000, 100000} {
		if got, enough := answers(room); !enough || !bytes.Equal(got, want) {
			t.Errorf("room %d: %s, want %s", room, got, want)
		}
	}
}
