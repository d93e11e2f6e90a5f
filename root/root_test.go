package root_test

import (
	"math"
	"slices"
	"strings"
	"testing"

	"tumbrel/api"
	"tumbrel/disk"
	"tumbrel/index"
	"tumbrel/record"
	"tumbrel/root"
)

func made(t *testing.T, room int) *disk.Disk {
	t.Helper()
	d, err := disk.New(room)
	fine(t, err)
	return d
}

func fine(t *testing.T, l ...api.Errno) {
	t.Helper()
	for i, err := range l {
		if err != api.OK {
			t.Fatalf("call %d: error %d", i+1, err)
		}
	}
}

func some(gen uint64) root.Root {
	return root.Root{Gen: gen, Config: index.Config{Lanes: 2, Payload: 8, Deliver: 3}, Segment: 100}
}

func is(t *testing.T, d *disk.Disk, want root.Root, wantErr api.Errno) {
	t.Helper()
	if r, err := root.Read(d); r != want || err != wantErr {
		t.Errorf("Read = %v, %d, want %v, %d", r, err, want, wantErr)
	}
}

// bytesOf is the bytes of a record of the numbers of a root, right or not.
func bytesOf(t *testing.T, n ...uint64) []byte {
	t.Helper()
	b, err := record.Bytes(record.Record{Kind: record.Root, N: n})
	fine(t, err)
	return b
}

// with is a disk whose file root has these bytes.
func with(t *testing.T, b []byte) *disk.Disk {
	t.Helper()
	d := made(t, 1000)
	fine(t, d.Create("root"), d.Append("root", b))
	return d
}

func TestRightAndWriteOfNone(t *testing.T) {
	for _, gen := range []uint64{0, 1, 9999999999, 10000000000, math.MaxUint64} {
		for _, lanes := range []int{0, 1, 8, 9} {
			for _, segment := range []int{math.MinInt, -1, 0, 63, 64, 65536, 65537, math.MaxInt} {
				r := root.Root{Gen: gen, Config: index.Config{Lanes: lanes, Payload: 0, Deliver: 20}, Segment: segment}
				want := gen >= 1 && gen < 10000000000 && lanes >= 1 && lanes <= 8 && segment >= 64 && segment <= 65536
				d := made(t, 1000)
				err := root.Write(d, r)
				if root.Right(r) != want || want && err != api.OK || !want && (err != api.ErrArg || len(d.Names()) != 0) {
					t.Errorf("Right(%v) isn't %v, Write: %d", r, want, err)
				}
				if want {
					is(t, d, r, api.OK)
				}
			}
		}
	}
	for _, c := range []index.Config{{}, {Lanes: 1, Payload: 65, Deliver: 1}, {Lanes: 1, Payload: -1, Deliver: 1}, {Lanes: 1, Payload: 1}, {Lanes: 1, Payload: 1, Deliver: 21}} {
		if root.Right(root.Root{Gen: 1, Config: c, Segment: 64}) {
			t.Errorf("%v may be", c)
		}
	}
	d := made(t, 1000)
	d.Fuse(0)
	d.DirSync()
	if err := root.Write(d, root.Root{}); err != api.ErrArg {
		t.Errorf("Write of none, without power: %d", err)
	}
}

func TestWriteStandsInTheFileRoot(t *testing.T) {
	d := made(t, 1000)
	is(t, d, root.Root{}, api.ErrName)
	fine(t, root.Write(d, some(5)))
	if b, err := d.Read("root"); err != api.OK || !slices.Equal(b, bytesOf(t, 5, 2, 8, 3, 100)) || strings.Join(d.Names(), " ") != "root" {
		t.Errorf("root has %v, %d; %v", b, err, d.Names())
	}
	is(t, d, some(5), api.OK)
	fine(t, d.Create("root.new"), d.Append("root.new", []byte("left over")))
	fine(t, root.Write(d, some(6)))
	is(t, d, some(6), api.OK)
	if strings.Join(d.Names(), " ") != "root" {
		t.Errorf("Names: %v", d.Names())
	}
	d.Crash(0, nil)
	is(t, d, some(6), api.OK)
}

func TestReadsErrors(t *testing.T) {
	good := bytesOf(t, 1, 2, 8, 3, 100)
	turned := slices.Clone(good)
	turned[9] ^= 1
	tick, _ := record.Bytes(record.Record{Kind: record.Tick, N: []uint64{1}})
	is(t, with(t, good), some(1), api.OK)
	for i, c := range []struct {
		b    []byte
		want api.Errno
	}{
		{nil, api.ErrForm}, {good[:5], api.ErrShort}, {good[:len(good)-1], api.ErrShort}, {turned, api.ErrSum},
		{append(slices.Clone(good), good...), api.ErrForm}, {append(slices.Clone(good), good[:3]...), api.ErrShort}, {append(slices.Clone(good), turned...), api.ErrSum},
		{tick, api.ErrForm}, {append(slices.Clone(tick), good...), api.ErrForm},
		{bytesOf(t, 0, 2, 8, 3, 100), api.ErrForm}, {bytesOf(t, 10000000000, 2, 8, 3, 100), api.ErrForm}, {bytesOf(t, 1, 0, 8, 3, 100), api.ErrForm}, {bytesOf(t, 1, 9, 8, 3, 100), api.ErrForm},
		{bytesOf(t, 1, 2, 65, 3, 100), api.ErrForm}, {bytesOf(t, 1, 2, 8, 0, 100), api.ErrForm}, {bytesOf(t, 1, 2, 8, 21, 100), api.ErrForm}, {bytesOf(t, 1, 2, 8, 3, 63), api.ErrForm},
		{bytesOf(t, 1, 2, 8, 3, 65537), api.ErrForm}, {bytesOf(t, 1, 1<<32+2, 8, 3, 100), api.ErrForm}, {bytesOf(t, 1, 2, math.MaxUint64, 3, 100), api.ErrForm}, {bytesOf(t, 1, 2, 8, 3, 1<<63+100), api.ErrForm},
	} {
		if r, err := root.Read(with(t, c.b)); r != (root.Root{}) || err != c.want {
			t.Errorf("case %d: Read = %v, %d, want %d", i, r, err, c.want)
		}
	}
	d := with(t, good)
	d.Fuse(0)
	d.DirSync()
	is(t, d, root.Root{}, api.ErrDown)
}

func TestWriteEndsAtTheFirstError(t *testing.T) {
	full := made(t, 20)
	fine(t, full.Create("a"), full.Append("a", make([]byte, 19)))
	if err := root.Write(full, some(1)); err != api.ErrFull || strings.Join(full.Names(), " ") != "a root.new" {
		t.Errorf("Write to a full disk: %d, %v", err, full.Names())
	}
	many := made(t, 1000)
	for i := range 60 {
		fine(t, many.Create("f"+strings.Repeat("x", i%8)+string(rune('a'+i/8))))
	}
	if err := root.Write(many, some(1)); err != api.ErrFull || len(many.Names()) != 60 {
		t.Errorf("Write to a full directory: %d", err)
	}
}

// Whatever crashes, and wherever the power goes: the one root is read, or the other.
func TestCrashes(t *testing.T) {
	for _, left := range []bool{false, true} {
		calls := 5
		if left {
			calls++
		}
		for n := range calls + 2 {
			for open := -1; open < 5; open++ {
				for tail := range 20 {
					d := made(t, 1000)
					fine(t, root.Write(d, some(1)))
					if left {
						fine(t, d.Create("root.new"), d.Append("root.new", []byte("left over")), d.DirSync())
					}
					d.Fuse(n)
					err := root.Write(d, some(2))
					if n < calls && err != api.ErrDown || n >= calls && err != api.OK {
						t.Fatalf("Write with a fuse of %d: %d", n, err)
					}
					d.Crash(open, []int{tail, tail})
					r, err2 := root.Read(d)
					if err2 != api.OK || r != some(1) && r != some(2) || err == api.OK && r != some(2) || n < calls-1 && r != some(1) {
						t.Fatalf("fuse %d, Crash(%d, %d): Read = %v, %d", n, open, tail, r, err2)
					}
				}
			}
		}
	}
}
