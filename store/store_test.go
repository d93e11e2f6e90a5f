package store_test

import (
	"maps"
	"math"
	"slices"
	"strconv"
	"strings"
	"testing"

	"tumbrel/api"
	"tumbrel/disk"
	"tumbrel/index"
	"tumbrel/life"
	"tumbrel/op"
	"tumbrel/record"
	"tumbrel/root"
	"tumbrel/snap"
	"tumbrel/store"
)

const most64 = math.MaxUint64

var set = store.Config{Queue: index.Config{Lanes: 2, Payload: 8, Deliver: 2}, Segment: 64}

func fine(t *testing.T, l ...api.Errno) {
	t.Helper()
	for i, err := range l {
		if err != api.OK {
			t.Fatalf("call %d: error %d", i+1, err)
		}
	}
}

func made(t *testing.T, room int) *disk.Disk {
	t.Helper()
	d, err := disk.New(room)
	fine(t, err)
	return d
}

func opened(t *testing.T, d *disk.Disk) *store.Store {
	t.Helper()
	s, err := store.Open(d)
	if s == nil || err != api.OK {
		t.Fatalf("Open: %d", err)
	}
	return s
}

// begun is an empty queue on a disk of some room.
func begun(t *testing.T, room int, c store.Config) (*disk.Disk, *store.Store) {
	t.Helper()
	d := made(t, room)
	fine(t, store.Format(d, c))
	return d, opened(t, d)
}

func does(t *testing.T, s *store.Store, o op.Op, payload string, want op.Answer, told string) {
	t.Helper()
	if a, b := s.Do(o, []byte(payload)); !op.Same(a, want) || string(b) != told {
		t.Fatalf("Do(%v, %q) = %v, %q, want %v, %q", o, payload, a, b, want, told)
	}
}

// done does an act that must have no error.
func done(t *testing.T, s *store.Store, o op.Op, payload string) op.Answer {
	t.Helper()
	a, _ := s.Do(o, []byte(payload))
	if a.Err != api.OK {
		t.Fatalf("Do(%v, %q): %d", o, payload, a.Err)
	}
	return a
}

func put(lane int, delay uint64) op.Op  { return op.Op{Do: record.Put, Lane: lane, N: delay} }
func lease(lane int, span uint64) op.Op { return op.Op{Do: record.Lease, Lane: lane, N: span} }
func ack(token uint64) op.Op            { return op.Op{Do: record.Ack, Id: token} }
func nack(token, delay uint64) op.Op    { return op.Op{Do: record.Nack, Id: token, N: delay} }
func tick(n uint64) op.Op               { return op.Op{Do: record.Tick, N: n} }

func names(d *disk.Disk) string { return strings.Join(d.Names(), " ") }

// files tells all files of a disk.
func files(t *testing.T, d *disk.Disk) map[string]string {
	t.Helper()
	m := map[string]string{}
	for _, name := range d.Names() {
		b, err := d.Read(name)
		fine(t, err)
		m[name] = string(b)
	}
	return m
}

// bytesOf is the bytes of records, one behind the other.
func bytesOf(t *testing.T, l ...record.Record) string {
	t.Helper()
	var all []byte
	for _, r := range l {
		b, err := record.Bytes(r)
		fine(t, err)
		all = append(all, b...)
	}
	return string(all)
}

func snapOf(t *testing.T, s snap.Snap) string {
	t.Helper()
	l, err := snap.Save(s)
	fine(t, err)
	return bytesOf(t, l...)
}

func actsOf(t *testing.T, l ...op.Op) string {
	t.Helper()
	var all string
	for _, o := range l {
		r, err := op.Record(o)
		fine(t, err)
		all += bytesOf(t, r)
	}
	return all
}

func messageOf(t *testing.T, id uint64, payload string) string {
	t.Helper()
	return bytesOf(t, record.Record{Kind: record.Message, N: []uint64{id}, Text: payload})
}

func rootOf(t *testing.T, gen uint64) string {
	t.Helper()
	return bytesOf(t, record.Record{Kind: record.Root, N: []uint64{gen, 2, 8, 2, 64}})
}

// costs fails the test, if what doesn't need just so many calls of the disk that change something.
func costs(t *testing.T, want int, make func() (*disk.Disk, func() api.Errno)) {
	t.Helper()
	for n := range want + 2 {
		d, what := make()
		d.Fuse(n)
		err := what()
		if n < want && err != api.ErrDown || n >= want && err != api.OK || d.Down() != (n < want) {
			t.Errorf("a fuse of %d: %d, down: %v, want %d calls", n, err, d.Down(), want)
		}
	}
}

func TestFormat(t *testing.T) {
	for _, c := range []store.Config{{}, {Queue: set.Queue, Segment: 63}, {Queue: set.Queue, Segment: 65537}, {Queue: index.Config{Lanes: 9, Payload: 8, Deliver: 2}, Segment: 64}, {Queue: index.Config{Lanes: 1, Payload: 65, Deliver: 2}, Segment: 64}} {
		d := made(t, 1000)
		if err := store.Format(d, c); err != api.ErrArg || names(d) != "" {
			t.Errorf("Format(%v): %d", c, err)
		}
	}
	d := made(t, 1000)
	fine(t, d.Create("a"), d.Append("a", make([]byte, 1000)), d.Create("m.1"), d.Create("root.new"), d.DirSync())
	fine(t, store.Format(d, set))
	want := map[string]string{"root": rootOf(t, 1), "e.1": "", "m.1": "", "s.1": snapOf(t, snap.Snap{State: index.State{Next: 1}, Seg: 1})}
	if got := files(t, d); !maps.Equal(got, want) {
		t.Errorf("Format leaves %q, want %q", got, want)
	}
	d.Crash(0, nil)
	if got := files(t, d); !maps.Equal(got, want) {
		t.Errorf("what Format leaves isn't sure: %q", got)
	}
	if err := store.Format(d, set); err != api.ErrTwice {
		t.Errorf("Format again: %d", err)
	}
	if err := store.Format(d, store.Config{}); err != api.ErrArg {
		t.Errorf("Format again, wrong: %d", err)
	}
	d.Fuse(0)
	d.DirSync()
	if err := store.Format(d, set); err != api.ErrTwice {
		t.Errorf("Format again, without power: %d", err)
	}
	costs(t, 14, func() (*disk.Disk, func() api.Errno) {
		d := made(t, 1000)
		return d, func() api.Errno { return store.Format(d, set) }
	})
	costs(t, 16, func() (*disk.Disk, func() api.Errno) {
		d := made(t, 1000)
		fine(t, d.Create("a"), d.Create("root.new"))
		return d, func() api.Errno { return store.Format(d, set) }
	})
}

func TestFormatOfASmallDisk(t *testing.T) {
	whole := 0
	for room := 16; room < 120; room++ {
		d := made(t, room)
		switch err := store.Format(d, set); err {
		case api.OK:
			whole++
			opened(t, d)
		case api.ErrFull:
			if whole > 0 {
				t.Errorf("room %d is too small, and a smaller one isn't", room)
			}
			if _, err := store.Open(d); err != api.ErrName {
				t.Errorf("room %d: Open: %d", room, err)
			}
		default:
			t.Errorf("room %d: Format: %d", room, err)
		}
	}
	if whole == 0 {
		t.Error("no room is enough")
	}
}

func TestPutLeaseAck(t *testing.T) {
	d, s := begun(t, 1000, set)
	does(t, s, put(0, 0), "a", op.Answer{Id: 1}, "")
	does(t, s, put(1, 0), "", op.Answer{Id: 2}, "")
	does(t, s, put(0, 5), "12345678", op.Answer{Id: 3}, "")
	w := index.Where{Seg: 1, At: 0, Size: 1}
	does(t, s, lease(-1, 5), "", op.Answer{Id: 1, Token: 1, Count: 1, Where: w}, "a")
	does(t, s, lease(-1, 5), "", op.Answer{Id: 2, Token: 2, Lane: 1, Count: 1, Where: index.Where{Seg: 1, At: 13}}, "")
	does(t, s, ack(1), "", op.Answer{Id: 1, Where: w}, "")
	does(t, s, tick(5), "", op.Answer{Many: 2}, "")
	does(t, s, lease(0, 5), "ignored", op.Answer{Id: 3, Token: 3, Count: 1, Where: index.Where{Seg: 1, At: 25, Size: 8}}, "12345678")
	does(t, s, nack(3, 0), "", op.Answer{Id: 3, Where: index.Where{Seg: 1, At: 25, Size: 8}}, "")
	if b, err := d.Read("m.1"); err != api.OK || string(b) != messageOf(t, 1, "a")+messageOf(t, 2, "")+messageOf(t, 3, "12345678") {
		t.Errorf("m.1 has %x, %d", b, err)
	}
	where := func(at uint64, size int) index.Where { return index.Where{Seg: 1, At: at, Size: size} }
	want := actsOf(t, op.Op{Do: record.Opened},
		op.Op{Do: record.Put, Where: where(0, 1)}, op.Op{Do: record.Put, Lane: 1, Where: where(13, 0)}, op.Op{Do: record.Put, N: 5, Where: where(25, 8)},
		lease(-1, 5), lease(-1, 5), ack(1), tick(5), lease(0, 5), nack(3, 0))
	if b, err := d.Read("e.1"); err != api.OK || string(b) != want {
		t.Errorf("e.1 has %x, %d, want %x", b, err, want)
	}
	if st := s.Stats(); st.Now != 5 || st.Next != 4 || !slices.Equal(st.Ready, []int{1, 1}) {
		t.Errorf("Stats = %v", st)
	}
	if r := s.Root(); r != (root.Root{Gen: 1, Config: set.Queue, Segment: 64}) {
		t.Errorf("Root = %v", r)
	}
}

func TestDosErrors(t *testing.T) {
	d, s := begun(t, 1000, set)
	done(t, s, put(0, 0), "a")
	done(t, s, tick(1), "")
	before, state := files(t, d), s.State()
	for _, c := range []struct {
		o       op.Op
		payload string
		want    api.Errno
	}{
		{op.Op{}, "", api.ErrArg}, {op.Op{Do: record.Opened}, "", api.ErrArg}, {op.Op{Do: 11}, "", api.ErrArg}, {op.Op{Do: record.Tick, Lane: 1}, "", api.ErrArg},
		{op.Op{Do: record.Put, Where: index.Where{Size: 1}}, "a", api.ErrArg}, {op.Op{Do: record.Put, Where: index.Where{Seg: 1}}, "", api.ErrArg}, {op.Op{Do: record.Put, Where: index.Where{At: 1}}, "", api.ErrArg},
		{put(2, 0), "", api.ErrArg}, {put(0, 0), "123456789", api.ErrArg}, {put(0, 0), strings.Repeat("x", 64), api.ErrArg}, {put(0, 0), strings.Repeat("x", 65), api.ErrArg}, {put(0, 0), strings.Repeat("x", 1<<16), api.ErrArg},
		{put(0, most64), "", api.ErrOver}, {put(0, most64), "123456789", api.ErrArg}, {lease(0, 0), "", api.ErrArg}, {lease(1, 1), "", api.ErrNone}, {lease(0, most64), "", api.ErrOver},
		{ack(1), "", api.ErrToken}, {nack(1, 1), "", api.ErrToken}, {op.Op{Do: record.Extend, Id: 1, N: 1}, "", api.ErrToken}, {tick(most64), "", api.ErrOver},
		{op.Op{Do: record.Requeue, Id: 1}, "", api.ErrName}, {op.Op{Do: record.Purge, Id: 1}, "", api.ErrName}, {op.Op{Do: record.Seen, Name: "a"}, "", api.ErrArg}, {op.Op{Do: record.Seen, N: 1}, "", api.ErrArg},
	} {
		does(t, s, c.o, c.payload, op.Answer{Err: c.want}, "")
		if !maps.Equal(files(t, d), before) || !sameState(s.State(), state) {
			t.Fatalf("%v had an error, and changed something", c.o)
		}
	}
}

func TestDoWritesOpenedOnce(t *testing.T) {
	d, s := begun(t, 1000, set)
	fine(t, s.Sync())
	does(t, s, ack(9), "", op.Answer{Err: api.ErrToken}, "")
	if b, _ := d.Read("e.1"); len(b) != 0 {
		t.Errorf("e.1 has %x, and nothing was done", b)
	}
	done(t, s, tick(1), "")
	done(t, s, tick(2), "")
	s = opened(t, d)
	done(t, s, tick(3), "")
	fine(t, s.Sync())
	done(t, s, tick(4), "")
	want := actsOf(t, op.Op{Do: record.Opened}, tick(1), tick(2), op.Op{Do: record.Opened}, tick(3), tick(4))
	if b, _ := d.Read("e.1"); string(b) != want {
		t.Errorf("e.1 has %x, want %x", b, want)
	}
	s = opened(t, d)
	fine(t, s.Pack())
	done(t, s, tick(5), "")
	if b, _ := d.Read("e.2"); string(b) != actsOf(t, tick(5)) {
		t.Errorf("e.2 has %x", b)
	}
}

func TestDoIsOneOrTwoCalls(t *testing.T) {
	full := func(acts ...string) func() (*disk.Disk, func() api.Errno) {
		return func() (*disk.Disk, func() api.Errno) {
			d, s := begun(t, 10000, set)
			for _, payload := range acts {
				done(t, s, put(0, 0), payload)
			}
			return d, func() api.Errno { a, _ := s.Do(put(0, 0), []byte("12345678")); return a.Err }
		}
	}
	costs(t, 2, full())
	costs(t, 2, full("12345678", "12345678"))
	costs(t, 3, full("12345678", "12345678", "12345678")) // a new segment
	for _, o := range []op.Op{lease(0, 1), tick(1), {Do: record.Seen, N: 1, Name: "a"}, {Do: record.Purge, Id: 1}, {Do: record.Requeue, Id: 1}, ack(3), nack(3, 1), {Do: record.Extend, Id: 3, N: 1}} {
		costs(t, 1, func() (*disk.Disk, func() api.Errno) {
			d, s := begun(t, 10000, set)
			done(t, s, put(0, 0), "a")
			for range 2 {
				done(t, s, nack(done(t, s, lease(0, 1), "").Token, 0), "")
			}
			done(t, s, put(0, 0), "b")
			done(t, s, put(0, 0), "b")
			done(t, s, lease(0, 1), "")
			return d, func() api.Errno { a, _ := s.Do(o, nil); return a.Err }
		})
	}
}

func TestNothingIsDoneOfWhatCantBeWrittenDown(t *testing.T) {
	for _, o := range []op.Op{put(0, 0), lease(0, 1), tick(1), ack(1), {Do: record.Seen, N: 1, Name: "a"}} {
		for n := range 3 {
			d, s := begun(t, 10000, set)
			done(t, s, put(0, 0), "a")
			done(t, s, put(0, 0), "b")
			done(t, s, lease(0, 1), "")
			before := s.State()
			d.Fuse(n)
			a, b := s.Do(o, nil)
			if a.Err == api.OK {
				continue
			}
			if !op.Same(a, op.Answer{Err: api.ErrDown}) || len(b) != 0 || !sameState(s.State(), before) {
				t.Errorf("%v with a fuse of %d: %v, %q", o, n, a, b)
			}
			d.Crash(99, []int{9999, 9999, 9999, 9999})
			if got := opened(t, d).State(); got.Now != before.Now || got.Next != before.Next || got.Leases != before.Leases {
				t.Errorf("%v with a fuse of %d is there behind a crash: %v", o, n, got)
			}
		}
	}
}

func TestAFullDisk(t *testing.T) {
	d, s := begun(t, 300, set)
	n := 0
	for {
		before := s.State()
		a, _ := s.Do(put(0, 0), []byte("12345678"))
		if a.Err == api.ErrFull {
			if !sameState(s.State(), before) {
				t.Error("a Put without room is done")
			}
			break
		}
		fine(t, a.Err)
		n++
	}
	if n == 0 || d.Held() > 300 {
		t.Errorf("%d messages, %d held", n, d.Held())
	}
	if a, _ := s.Do(lease(0, 5), nil); a.Err == api.OK {
		does(t, s, ack(1), "", op.Answer{Id: 1, Where: a.Where}, "")
	}
	s = opened(t, d)
	if st := s.Stats(); st.Ready[0]+1 < n || st.Next != uint64(n+1) {
		t.Errorf("opened again: %v, %d were put", st, n)
	}
}

func TestPayload(t *testing.T) {
	d, s := begun(t, 1000, set)
	done(t, s, put(0, 0), "one")
	done(t, s, put(1, 3), "")
	payload := func(id uint64, want string, wantErr api.Errno) {
		t.Helper()
		if b, err := s.Payload(id); string(b) != want || err != wantErr {
			t.Errorf("Payload(%d) = %q, %d, want %q, %d", id, b, err, want, wantErr)
		}
	}
	payload(1, "one", api.OK)
	payload(2, "", api.OK)
	payload(0, "", api.ErrName)
	payload(3, "", api.ErrName)
	b, _ := s.Payload(1)
	b[0] = 'x'
	payload(1, "one", api.OK)
	done(t, s, lease(0, 5), "")
	payload(1, "one", api.OK)
	done(t, s, ack(1), "")
	payload(1, "", api.ErrName)
	d.Fuse(0)
	d.DirSync()
	payload(2, "", api.ErrDown)
	payload(1, "", api.ErrName)
}

func TestAMessageThatIsAnother(t *testing.T) {
	for _, c := range []struct {
		segment string
		want    api.Errno
	}{
		{messageOf(t, 2, "one"), api.ErrForm}, {bytesOf(t, record.Record{Kind: record.Tick, N: []uint64{1}}), api.ErrForm}, {"", api.ErrShort}, {messageOf(t, 1, "one")[:5], api.ErrShort},
		{strings.Replace(messageOf(t, 1, "one"), "o", "p", 1), api.ErrSum}, {messageOf(t, 1, "other"), api.OK},
	} {
		d, s := begun(t, 1000, set)
		done(t, s, put(0, 0), "one")
		fine(t, d.Cut("m.1", 0), d.Append("m.1", []byte(c.segment)))
		before, state := files(t, d), s.State()
		b, err := s.Payload(1)
		a, told := s.Do(lease(0, 1), nil)
		if err != c.want || a.Err != c.want {
			t.Errorf("Payload: %q, %d; Lease: %v, want %d", b, err, a, c.want)
		}
		if c.want == api.OK && (string(b) != "other" || string(told) != "other") {
			t.Errorf("Payload: %q, Lease: %q", b, told)
		}
		if c.want != api.OK && (!op.Same(a, op.Answer{Err: c.want}) || len(told)+len(b) != 0 || !maps.Equal(files(t, d), before) || !sameState(s.State(), state)) {
			t.Errorf("a Lease with an error changed something")
		}
	}
	d, s := begun(t, 1000, set)
	done(t, s, put(0, 0), "one")
	fine(t, d.Delete("m.1"))
	does(t, s, lease(0, 1), "", op.Answer{Err: api.ErrName}, "")
	does(t, s, put(0, 0), "", op.Answer{Err: api.ErrName}, "") // so is the segment to which is appended
}

func TestSync(t *testing.T) {
	some := func(acts ...op.Op) func() (*disk.Disk, func() api.Errno) {
		return func() (*disk.Disk, func() api.Errno) {
			d, s := begun(t, 10000, set)
			for _, o := range acts {
				done(t, s, o, "")
			}
			return d, s.Sync
		}
	}
	costs(t, 1, some())
	costs(t, 1, some(tick(1), tick(2)))
	costs(t, 2, some(put(0, 0)))
	costs(t, 4, some(put(0, 0), put(0, 0), put(0, 0), put(0, 0), put(0, 0), put(0, 0))) // two segments, the directory, the events
	d, s := begun(t, 10000, set)
	for range 6 {
		done(t, s, put(0, 0), "a")
	}
	fine(t, s.Sync())
	done(t, s, put(0, 0), "b")
	d.Crash(0, nil)
	if st := opened(t, d).Stats(); st.Next != 7 || st.Ready[0] != 6 {
		t.Errorf("behind a Sync, and a crash: %v", st)
	}
}

func TestNothingIsShared(t *testing.T) {
	_, s := begun(t, 1000, set)
	p := []byte("one")
	a, _ := s.Do(put(0, 0), p)
	fine(t, a.Err)
	p[0] = 'x'
	before := s.State()
	s.State().Items[0].Id = 9
	s.Stats().Ready[0] = 9
	_, b := s.Do(lease(0, 1), nil)
	if string(b) != "one" || s.Stats().Next != 2 || before.Items[0].Id != 1 {
		t.Errorf("the payload is %q", b)
	}
	b[0] = 'y'
	if c, _ := s.Payload(1); string(c) != "one" {
		t.Errorf("the payload is %q", c)
	}
	if it := s.State().Items[0]; it.Id != 1 || it.Life.Status != life.Leased {
		t.Errorf("the message is %v", it)
	}
}

func sameState(a, b index.State) bool {
	return a.Now == b.Now && a.Next == b.Next && a.Leases == b.Leases && a.Turns == b.Turns && a.Deaths == b.Deaths &&
		slices.Equal(a.Items, b.Items) && slices.Equal(a.Dead, b.Dead) && slices.Equal(a.Cursors, b.Cursors)
}

// segs tells the numbers of a disk's segments.
func segs(d *disk.Disk) []uint64 {
	var l []uint64
	for _, name := range d.Names() {
		if n, ok := strings.CutPrefix(name, "m."); ok {
			k, _ := strconv.ParseUint(n, 10, 64)
			l = append(l, k)
		}
	}
	slices.Sort(l)
	return l
}

func TestPack(t *testing.T) {
	d, s := begun(t, 10000, set)
	for i := range 20 {
		done(t, s, put(0, 0), strconv.Itoa(i))
	}
	for token := range uint64(17) {
		done(t, s, lease(0, 5), "")
		if token != 6 {
			done(t, s, ack(token+1), "")
		}
	}
	if len(segs(d)) != 5 {
		t.Errorf("segments ahead of Pack: %v", segs(d))
	}
	state := s.State()
	fine(t, s.Pack())
	if !sameState(s.State(), state) || s.Root() != (root.Root{Gen: 2, Config: set.Queue, Segment: 64}) {
		t.Errorf("behind Pack: %v, %v", s.State(), s.Root())
	}
	if names(d) != "e.2 m.2 m.5 root s.2" {
		t.Errorf("behind Pack: %s", names(d))
	}
	got := files(t, d)
	b, _ := d.Read("m.5")
	if got["root"] != rootOf(t, 2) || got["e.2"] != "" || got["s.2"] != snapOf(t, snap.Snap{State: state, Seg: 5, At: uint64(len(b))}) {
		t.Errorf("behind Pack: %q", got)
	}
	d.Crash(0, nil)
	if !maps.Equal(files(t, d), got) {
		t.Errorf("what Pack leaves isn't sure: %q", files(t, d))
	}
	s = opened(t, d)
	if st := s.Stats(); st.Ready[0] != 4 || st.Leased != 0 || st.Next != 21 {
		t.Errorf("opened behind Pack: %v", st)
	}
	for _, want := range []string{"17", "18", "19", "6"} {
		if _, b := s.Do(lease(0, 5), nil); string(b) != want {
			t.Errorf("leased behind Pack: %q, want %q", b, want)
		}
	}
}

func TestPacksCalls(t *testing.T) {
	costs(t, 13, func() (*disk.Disk, func() api.Errno) { // snapshot 3, events 2, root 5, both old ones, the directory
		d, s := begun(t, 10000, set)
		return d, s.Pack
	})
	costs(t, 17, func() (*disk.Disk, func() api.Errno) { // and two segments, the directory; one segment's Delete
		d, s := begun(t, 10000, set)
		for range 6 {
			done(t, s, put(0, 0), "")
		}
		for token := range uint64(5) {
			done(t, s, lease(0, 1), "")
			done(t, s, ack(token+1), "")
		}
		return d, s.Pack
	})
	costs(t, 16, func() (*disk.Disk, func() api.Errno) { // and three files that were left over
		d, s := begun(t, 10000, set)
		fine(t, d.Create("s.2"), d.Create("e.2"), d.Append("e.2", []byte("x")), d.Create("root.new"))
		return d, s.Pack
	})
}

func TestPackWithoutRoom(t *testing.T) {
	gaveUp, packed := 0, 0
	for room := 100; room < 420; room++ {
		d, s := begun(t, room, set)
		for {
			if a, _ := s.Do(put(0, 0), []byte("12345678")); a.Err != api.OK || s.Stats().Next == 5 {
				break
			}
		}
		state, before := s.State(), files(t, d)
		switch err := s.Pack(); err {
		case api.OK:
			packed++
		case api.ErrFull:
			gaveUp++
			if !sameState(s.State(), state) || !maps.Equal(files(t, d), before) || s.Root().Gen != 1 {
				t.Fatalf("room %d: a Pack without room leaves %q of %q", room, files(t, d), before)
			}
			d.Crash(0, nil)
			if !maps.Equal(files(t, d), before) && s.Stats().Next == 1 {
				t.Fatalf("room %d: what a Pack without room leaves isn't sure", room)
			}
		default:
			t.Fatalf("room %d: Pack: %d", room, err)
		}
		if d.Held() > room {
			t.Fatalf("room %d: %d held", room, d.Held())
		}
		opened(t, d)
	}
	if gaveUp == 0 || packed == 0 {
		t.Errorf("%d gave up, %d packed", gaveUp, packed)
	}
}

func TestPackThatGivesUp(t *testing.T) {
	costs(t, 3, func() (*disk.Disk, func() api.Errno) { // the snapshot is created, and deleted; the directory
		d, s := begun(t, 10000, set)
		fine(t, d.Create("x"), d.Append("x", make([]byte, 10000-d.Held())))
		return d, func() api.Errno {
			err := s.Pack()
			if names(d) == "e.1 m.1 root s.1 x" && s.Root().Gen == 1 && err == api.ErrFull {
				return api.OK
			}
			return err
		}
	})
	d, s := begun(t, 10000, set)
	fine(t, d.Create("x"), d.Append("x", make([]byte, 10000-d.Held())))
	if err := s.Pack(); err != api.ErrFull {
		t.Fatalf("Pack: %d", err)
	}
	fine(t, d.Cut("x", 0))
	done(t, s, tick(1), "")
	if b, _ := d.Read("e.1"); string(b) != actsOf(t, op.Op{Do: record.Opened}, tick(1)) {
		t.Errorf("it is as fresh as ever: e.1 has %x", b)
	}
	fine(t, s.Pack())
	if s.Root().Gen != 2 || opened(t, d).Stats().Now != 1 {
		t.Errorf("packed later: %v", s.Root())
	}
}

func TestPackOfAFullDirectory(t *testing.T) {
	for left := range 4 { // a Pack makes three files more
		d, s := begun(t, 10000, set)
		for i := range 60 - 4 - left {
			fine(t, d.Create("x"+strconv.Itoa(i)))
		}
		err := s.Pack()
		if left < 3 && (err != api.ErrFull || s.Root().Gen != 1 || len(d.Names()) != 60-left) || left == 3 && err != api.OK {
			t.Errorf("%d names left: Pack: %d", left, err)
		}
		opened(t, d)
	}
}

func TestTheLastGeneration(t *testing.T) {
	d, s := begun(t, 10000, set)
	done(t, s, put(0, 0), "a")
	fine(t, s.Sync(), root.Write(d, root.Root{Gen: 9999999998, Config: set.Queue, Segment: 64}), d.Rename("s.1", "s.9999999998"), d.Rename("e.1", "e.9999999998"))
	s = opened(t, d)
	fine(t, s.Pack())
	if names(d) != "e.9999999999 m.1 root s.9999999999" {
		t.Errorf("behind Pack: %s", names(d))
	}
	before := files(t, d)
	d.Fuse(0)
	if err := s.Pack(); err != api.ErrFull || !maps.Equal(files(t, d), before) {
		t.Errorf("Pack of the last generation: %d", err)
	}
	d.Fuse(-1)
	does(t, s, lease(0, 1), "", op.Answer{Id: 1, Token: 1, Count: 1, Where: index.Where{Seg: 1, Size: 1}}, "a")
	done(t, s, put(0, 0), "b")
	d.Fuse(0)
	if err := s.Pack(); err != api.ErrDown {
		t.Errorf("Pack of the last generation, the power going at the log's Sync: %d", err)
	}
}

func TestPackThatLosesPowerBehindTheRoot(t *testing.T) {
	for n := range 13 {
		d, s := begun(t, 10000, set)
		d.Fuse(n)
		if err := s.Pack(); err != api.ErrDown {
			t.Fatalf("Pack with a fuse of %d: %d", n, err)
		}
		want := uint64(1)
		if n >= 10 {
			want = 2 // the root is written; what is ahead of it is left over
		}
		if s.Root().Gen != want {
			t.Errorf("Pack with a fuse of %d: generation %d", n, s.Root().Gen)
		}
		d.Crash(99, nil)
		s = opened(t, d)
		if got := names(d); got != "e.1 m.1 root s.1" && got != "e.2 m.1 root s.2" {
			t.Errorf("opened behind a fuse of %d: %s", n, got)
		}
	}
}

func TestFormatDeletesByNames(t *testing.T) {
	for n, want := range []string{"a b m.10 m.9", "b m.10 m.9", "m.10 m.9", "m.9", ""} {
		d := made(t, 1000)
		for _, name := range []string{"m.9", "b", "m.10", "a"} {
			fine(t, d.Create(name))
		}
		d.Fuse(n)
		if err := store.Format(d, set); err != api.ErrDown || names(d) != want {
			t.Errorf("Format with a fuse of %d: %d, %s, want %s", n, err, names(d), want)
		}
	}
}

// Pack deletes what is ahead first, then the segments, by their numbers.
func TestPackDeletesByNumbers(t *testing.T) {
	build := func() (*disk.Disk, *store.Store) {
		d, s := begun(t, 10000, set)
		for range 53 {
			done(t, s, put(0, 0), "")
		}
		for token := range uint64(53) {
			done(t, s, lease(0, 1), "")
			done(t, s, ack(token+1), "")
		}
		fine(t, s.Sync())
		return d, s
	}
	for n := range 10 + 2 + 10 + 1 {
		d, s := build()
		d.Fuse(n)
		if err := s.Pack(); err != api.ErrDown {
			t.Fatalf("Pack with a fuse of %d: %d", n, err)
		}
		old, gone := slices.Contains(d.Names(), "s.1"), 11-len(segs(d))
		if n > 10 == old || (n > 11) == slices.Contains(d.Names(), "e.1") || gone != max(n-12, 0) || segs(d)[0] != uint64(gone+1) {
			t.Errorf("Pack with a fuse of %d leaves %s", n, names(d))
		}
	}
	d, s := build()
	fine(t, s.Pack())
	if names(d) != "e.2 m.11 root s.2" {
		t.Errorf("Pack leaves %s", names(d))
	}
}
