package events_test

import (
	"bytes"
	"math"
	"math/rand/v2"
	"slices"
	"strings"
	"testing"

	"tumbrel/api"
	"tumbrel/disk"
	"tumbrel/events"
	"tumbrel/frame"
	"tumbrel/index"
	"tumbrel/op"
	"tumbrel/record"
)

const top = 9999999999

func made(t *testing.T, room int) *disk.Disk {
	t.Helper()
	d, err := disk.New(room)
	fine(t, err)
	return d
}

func fine(t *testing.T, l ...api.Errno) {
	t.Helper()
	for i, err := range l {
		if err != api.OK {
			t.Fatalf("call %d: error %d", i+1, err)
		}
	}
}

func has(t *testing.T, d *disk.Disk, file string, want []byte) {
	t.Helper()
	if b, err := d.Read(file); err != api.OK || !bytes.Equal(b, want) {
		t.Errorf("%s has %x, %d, want %x", file, b, err, want)
	}
}

func loads(t *testing.T, d *disk.Disk, gen uint64, want []op.Op, ends []int, wantErr api.Errno) {
	t.Helper()
	if l, e, err := events.Load(d, gen); !slices.Equal(l, want) || !slices.Equal(e, ends) || err != wantErr {
		t.Errorf("Load = %v, %v, %d, want %v, %v, %d", l, e, err, want, ends, wantErr)
	}
}

// bytesOf is the bytes of acts' records.
func bytesOf(t *testing.T, l ...op.Op) []byte {
	t.Helper()
	var all []byte
	for _, o := range l {
		r, err := op.Record(o)
		fine(t, err)
		b, err := record.Bytes(r)
		fine(t, err)
		all = append(all, b...)
	}
	return all
}

var (
	tick = op.Op{Do: record.Tick, N: 5}
	put  = op.Op{Do: record.Put, Lane: 1, N: 2, Where: index.Where{Seg: 3, At: 4, Size: 5}}
	seen = op.Op{Do: record.Seen, N: 1, Name: "abc"}
)

func TestAGenerationWithoutAName(t *testing.T) {
	d := made(t, 1000)
	for _, down := range []bool{false, true} {
		for _, gen := range []uint64{top + 1, math.MaxUint64} {
			for i, err := range []api.Errno{events.Begin(d, gen), events.Append(d, gen, tick), events.Append(d, gen, op.Op{}), events.Sync(d, gen), events.Cut(d, gen, 0), events.Cut(d, gen, -1)} {
				if err != api.ErrArg {
					t.Errorf("call %d of %d: %d", i, gen, err)
				}
			}
			loads(t, d, gen, nil, nil, api.ErrArg)
		}
		if !down {
			d.Fuse(0)
			d.DirSync()
		}
	}
}

func TestBegin(t *testing.T) {
	d := made(t, 1000)
	fine(t, events.Begin(d, 1), events.Begin(d, top), events.Begin(d, 0))
	if strings.Join(d.Names(), " ") != "e.0 e.1 e.9999999999" {
		t.Errorf("Names: %v", d.Names())
	}
	loads(t, d, 1, nil, nil, api.OK)
	if err := events.Begin(d, 1); err != api.ErrTwice {
		t.Errorf("Begin again: %d", err)
	}
	for n, want := range []api.Errno{api.ErrDown, api.ErrDown, api.OK} {
		d.Fuse(n)
		if err := events.Begin(d, uint64(10+n)); err != want {
			t.Errorf("Begin with a fuse of %d: %d", n, err)
		}
		if d.Down() != (n < 2) {
			t.Errorf("Begin with a fuse of %d: down: %v", n, d.Down())
		}
		d.Crash(9, nil)
	}
	if strings.Join(d.Names(), " ") != "e.0 e.1 e.11 e.12 e.9999999999" {
		t.Errorf("Names: %v", d.Names())
	}
}

func TestAppendAndLoad(t *testing.T) {
	d := made(t, 1000)
	fine(t, events.Begin(d, 1), events.Append(d, 1, tick))
	loads(t, d, 1, []op.Op{tick}, []int{12}, api.OK)
	fine(t, events.Append(d, 1), events.Append(d, 1, put, seen))
	all := bytesOf(t, tick, put, seen)
	has(t, d, "e.1", all)
	loads(t, d, 1, []op.Op{tick, put, seen}, []int{12, 12 + len(bytesOf(t, put)), len(all)}, api.OK)
	if err := events.Append(d, 2, tick); err != api.ErrName {
		t.Errorf("Append to no file: %d", err)
	}
	if err := events.Append(d, 2); err != api.ErrName {
		t.Errorf("Append of nothing to no file: %d", err)
	}
	loads(t, d, 2, nil, nil, api.ErrName)
}

func TestAppendIsAllOrNothing(t *testing.T) {
	d := made(t, 30)
	fine(t, events.Begin(d, 1), events.Append(d, 1, tick))
	for _, l := range [][]op.Op{{{}}, {tick, {Do: 11}}, {tick, tick, {Do: record.Put, Lane: -1}, tick}} {
		if err := events.Append(d, 1, l...); err != api.ErrArg {
			t.Errorf("Append of %v: %d", l, err)
		}
		if err := events.Append(d, 7, l...); err != api.ErrArg {
			t.Errorf("Append of %v to no file: %d", l, err)
		}
	}
	if err := events.Append(d, 1, tick, tick); err != api.ErrFull {
		t.Errorf("Append of too much: %d", err)
	}
	has(t, d, "e.1", bytesOf(t, tick))
}

func TestAppendIsOneCall(t *testing.T) {
	d := made(t, 1000)
	fine(t, events.Begin(d, 1))
	d.Fuse(1)
	fine(t, events.Append(d, 1, tick, put, seen))
	if err := events.Append(d, 1, tick); err != api.ErrDown {
		t.Errorf("Append, the power going: %d", err)
	}
	if err := events.Append(d, 1, op.Op{}); err != api.ErrArg {
		t.Errorf("Append of none, without power: %d", err)
	}
}

func TestLoadsErrors(t *testing.T) {
	good := bytesOf(t, tick, put)
	turned := slices.Clone(good)
	turned[len(turned)-1] ^= 1
	message, _ := record.Bytes(record.Record{Kind: record.Message, N: []uint64{1}})
	lane9, _ := record.Bytes(record.Record{Kind: record.Lease, N: []uint64{9, 1}})
	noKind, _ := frame.Bytes(frame.Frame{Kind: 99})
	short, _ := frame.Bytes(frame.Frame{Kind: record.Tick})
	join := func(l ...[]byte) []byte { return slices.Concat(l...) }
	ends := []int{12, len(good)}
	for i, c := range []struct {
		b    []byte
		l    []op.Op
		ends []int
		err  api.Errno
	}{
		{nil, nil, nil, api.OK},
		{good, []op.Op{tick, put}, ends, api.OK},
		{good[:len(good)-1], []op.Op{tick}, ends[:1], api.OK},
		{good[:13], []op.Op{tick}, ends[:1], api.OK},
		{good[:5], nil, nil, api.OK},
		{join(good, short), []op.Op{tick, put}, ends, api.OK},
		{turned, nil, nil, api.ErrSum},
		{join(good, message), nil, nil, api.ErrForm},
		{join(message, turned), nil, nil, api.ErrForm},
		{join(lane9, good), nil, nil, api.ErrForm},
		{join(good, noKind), nil, nil, api.ErrForm},
		{join(message, good[:5]), nil, nil, api.ErrForm},
		{join(turned, message), nil, nil, api.ErrSum},
	} {
		d := made(t, 1000)
		fine(t, events.Begin(d, 1), d.Append("e.1", c.b))
		if l, e, err := events.Load(d, 1); !slices.Equal(l, c.l) || !slices.Equal(e, c.ends) || err != c.err {
			t.Errorf("case %d: Load = %v, %v, %d, want %v, %v, %d", i, l, e, err, c.l, c.ends, c.err)
		}
	}
	d := made(t, 1000)
	fine(t, events.Begin(d, 1))
	d.Fuse(0)
	d.DirSync()
	loads(t, d, 1, nil, nil, api.ErrDown)
}

func TestSyncAndCut(t *testing.T) {
	d := made(t, 1000)
	for _, err := range []api.Errno{events.Sync(d, 1), events.Cut(d, 1, 0), events.Cut(d, 1, -1)} {
		if err != api.ErrName {
			t.Errorf("of no file: %d", err)
		}
	}
	fine(t, events.Begin(d, 1), d.DirSync(), events.Append(d, 1, tick, tick, tick))
	if err := events.Cut(d, 1, -1); err != api.ErrArg {
		t.Errorf("Cut to -1: %d", err)
	}
	d.Fuse(0)
	fine(t, events.Cut(d, 1, 36), events.Cut(d, 1, 37), events.Cut(d, 1, math.MaxInt)) // nothing is to be cut
	d.Fuse(1)
	fine(t, events.Cut(d, 1, 24))
	if err := events.Cut(d, 1, 12); err != api.ErrDown {
		t.Errorf("Cut, the power going: %d", err)
	}
	if err := events.Cut(d, 1, 24); err != api.ErrDown {
		t.Errorf("Cut without power: %d", err)
	}
	d.Crash(9, []int{24})
	loads(t, d, 1, []op.Op{tick, tick}, []int{12, 24}, api.OK)
	fine(t, events.Append(d, 1, put), events.Sync(d, 1), events.Append(d, 1, seen))
	d.Crash(0, nil)
	loads(t, d, 1, []op.Op{tick, tick, put}, []int{12, 24, 24 + len(bytesOf(t, put))}, api.OK)
	if err := events.Sync(d, 2); err != api.ErrName {
		t.Errorf("Sync of no file: %d", err)
	}
}

func TestBehindACrashABeginningIsLoaded(t *testing.T) {
	for seed := range 200 {
		r := rand.New(rand.NewPCG(17, uint64(seed)))
		d := made(t, 10000)
		fine(t, events.Begin(d, 1), d.DirSync())
		var all []op.Op
		sure := 0
		for range 20 {
			if r.IntN(6) == 0 {
				fine(t, events.Sync(d, 1))
				sure = len(all)
				continue
			}
			var l []op.Op
			for range r.IntN(4) {
				l = append(l, []op.Op{tick, put, seen, {Do: record.Opened}}[r.IntN(4)])
			}
			before := slices.Clone(l)
			fine(t, events.Append(d, 1, l...))
			if !slices.Equal(l, before) {
				t.Fatalf("Append changed its acts: %v", l)
			}
			all = append(all, l...)
		}
		d.Crash(9, []int{r.IntN(300)})
		l, ends, err := events.Load(d, 1)
		if err != api.OK || len(l) < sure || len(l) > len(all) || !slices.Equal(l, all[:len(l)]) || len(ends) != len(l) {
			t.Fatalf("seed %d: Load = %d of %d acts, %d sure, %d", seed, len(l), len(all), sure, err)
		}
		for i := range ends {
			if ends[i] != len(bytesOf(t, all[:i+1]...)) {
				t.Fatalf("act %d ends at %d", i, ends[i])
			}
		}
	}
}
