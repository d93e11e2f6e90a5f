package seglog_test

import (
	"math"
	"math/rand/v2"
	"slices"
	"strconv"
	"strings"
	"testing"

	"tumbrel/api"
	"tumbrel/disk"
	"tumbrel/frame"
	"tumbrel/record"
	"tumbrel/seglog"
)

const top = 9999999999

func made(t *testing.T, room int) *disk.Disk {
	t.Helper()
	d, err := disk.New(room)
	fine(t, err)
	return d
}

func fine(t *testing.T, l ...api.Errno) {
	t.Helper()
	for i, err := range l {
		if err != api.OK {
			t.Fatalf("call %d: error %d", i+1, err)
		}
	}
}

func begun(t *testing.T, d *disk.Disk, seg uint64, most int) *seglog.Log {
	t.Helper()
	l, err := seglog.Begin(d, seg, most)
	if l == nil || err != api.OK {
		t.Fatalf("Begin(%d, %d): %d", seg, most, err)
	}
	return l
}

// of is a record of so many bytes, from 12 on.
func of(size int) record.Record {
	if size-12 <= api.MostPayload {
		return record.Record{Kind: record.Message, N: []uint64{7}, Text: strings.Repeat("x", size-12)}
	}
	return record.Record{Kind: record.Message, N: []uint64{math.MaxUint64}, Text: strings.Repeat("x", size-21)}
}

func appended(t *testing.T, l *seglog.Log, size int, seg, at uint64) {
	t.Helper()
	if s, a, err := l.Append(of(size)); s != seg || a != at || err != api.OK {
		t.Fatalf("Append of %d bytes: %d, %d, %d, want %d, %d", size, s, a, err, seg, at)
	}
}

func ends(t *testing.T, l *seglog.Log, seg, at uint64) {
	t.Helper()
	if s, a := l.End(); s != seg || a != at {
		t.Errorf("End = %d, %d, want %d, %d", s, a, seg, at)
	}
}

// sizes tells all names with how many bytes each file has.
func sizes(t *testing.T, d *disk.Disk) string {
	t.Helper()
	var l []string
	for _, name := range d.Names() {
		b, err := d.Read(name)
		fine(t, err)
		l = append(l, name+":"+strconv.Itoa(len(b)))
	}
	return strings.Join(l, " ")
}

func holds(t *testing.T, d *disk.Disk, want string) {
	t.Helper()
	if got := sizes(t, d); got != want {
		t.Errorf("the disk has %s, want %s", got, want)
	}
}

func TestBegin(t *testing.T) {
	d := made(t, 1000)
	for _, c := range []struct {
		d    *disk.Disk
		seg  uint64
		most int
	}{{nil, 1, 64}, {d, 1, 63}, {d, 1, 65537}, {d, 1, -1}, {d, 1, 0}, {d, 1, math.MinInt}, {d, 1, math.MaxInt}, {d, top + 1, 64}, {d, math.MaxUint64, 64}} {
		if l, err := seglog.Begin(c.d, c.seg, c.most); l != nil || err != api.ErrArg {
			t.Errorf("Begin(%d, %d): %d", c.seg, c.most, err)
		}
		if l, err := seglog.Open(c.d, c.seg, 0, c.most); l != nil || err != api.ErrArg {
			t.Errorf("Open(%d, %d): %d", c.seg, c.most, err)
		}
	}
	holds(t, d, "")
	ends(t, begun(t, d, 1, 64), 1, 0)
	ends(t, begun(t, d, 0, 65536), 0, 0)
	ends(t, begun(t, d, top, 100), top, 0)
	holds(t, d, "m.0:0 m.1:0 m.9999999999:0")
	if l, err := seglog.Begin(d, 1, 64); l != nil || err != api.ErrTwice {
		t.Errorf("Begin again: %d", err)
	}
	d.Fuse(0)
	if l, err := seglog.Begin(d, 2, 64); l != nil || err != api.ErrDown {
		t.Errorf("Begin without power: %d", err)
	}
	if l, err := seglog.Begin(d, 2, 63); l != nil || err != api.ErrArg {
		t.Errorf("Begin, wrong, without power: %d", err)
	}
}

func TestAppendFillsSegments(t *testing.T) {
	d := made(t, 10000)
	l := begun(t, d, 1, 64)
	if seg, at, err := l.Append(record.Record{Kind: record.Tick, N: []uint64{5}}); seg != 1 || at != 0 || err != api.OK {
		t.Fatalf("Append = %d, %d, %d", seg, at, err)
	}
	ends(t, l, 1, 12)
	appended(t, l, 52, 1, 12) // just as many as may be
	ends(t, l, 1, 64)
	appended(t, l, 12, 2, 0)
	appended(t, l, 53, 3, 0) // one too many
	appended(t, l, 76, 4, 0) // more than may be, but alone
	ends(t, l, 4, 76)
	appended(t, l, 85, 5, 0)
	appended(t, l, 12, 6, 0)
	holds(t, d, "m.1:64 m.2:12 m.3:53 m.4:76 m.5:85 m.6:12")
	appended(t, begun(t, d, 10, 64), 76, 10, 0) // likewise, as the first one of all
	m := begun(t, d, 20, 65536)
	for n := range uint64(100) {
		appended(t, m, 60, 20, 60*n)
	}
}

func TestAppendsErrors(t *testing.T) {
	d := made(t, 100)
	l := begun(t, d, 1, 64)
	for _, r := range []record.Record{{}, {Kind: record.Tick}, {Kind: 18}, {Kind: record.Message, N: []uint64{1}, Text: strings.Repeat("x", 65)}} {
		if seg, at, err := l.Append(r); seg != 0 || at != 0 || err != api.ErrArg {
			t.Errorf("Append(%v) = %d, %d, %d", r, seg, at, err)
		}
	}
	appended(t, l, 60, 1, 0)
	if seg, at, err := l.Append(of(50)); seg != 0 || at != 0 || err != api.ErrFull {
		t.Errorf("Append to a disk that is full: %d, %d, %d", seg, at, err)
	}
	ends(t, l, 2, 0) // the segment was begun all the same
	holds(t, d, "m.1:60 m.2:0")
	appended(t, l, 40, 2, 0)
	if _, _, err := l.Append(of(12)); err != api.ErrFull {
		t.Errorf("Append to a disk that is full: %d", err)
	}
	ends(t, l, 2, 40)
	if seg, at, err := l.Append(record.Record{Kind: 18}); seg != 0 || at != 0 || err != api.ErrArg {
		t.Errorf("a wrong record, and no room: %d, %d, %d", seg, at, err)
	}
	ends(t, l, 2, 40)
}

func TestANewSegmentThatMayNotBe(t *testing.T) {
	d := made(t, 1000)
	l := begun(t, d, top, 64)
	appended(t, l, 60, top, 0)
	if seg, at, err := l.Append(of(12)); seg != 0 || at != 0 || err != api.ErrFull {
		t.Errorf("Append behind the last name: %d, %d, %d", seg, at, err)
	}
	ends(t, l, top, 60)
	l = begun(t, d, 1, 64)
	appended(t, l, 60, 1, 0)
	fine(t, d.Create("m.2"))
	if seg, at, err := l.Append(of(12)); seg != 0 || at != 0 || err != api.ErrTwice {
		t.Errorf("Append, the next segment being there: %d, %d, %d", seg, at, err)
	}
	ends(t, l, 1, 60)
	fine(t, d.Delete("m.2"))
	for i := range 58 {
		fine(t, d.Create("f"+strconv.Itoa(i)))
	}
	if seg, at, err := l.Append(of(12)); seg != 0 || at != 0 || err != api.ErrFull {
		t.Errorf("Append, the most files being there: %d, %d, %d", seg, at, err)
	}
	ends(t, l, 1, 60)
	fine(t, d.Delete("f0"))
	d.Fuse(1)
	if seg, at, err := l.Append(of(12)); seg != 0 || at != 0 || err != api.ErrDown {
		t.Errorf("Append, the power going behind Create: %d, %d, %d", seg, at, err)
	}
	ends(t, l, 2, 0)
	d.Crash(99, nil)
	fine(t, d.Delete("f1"))
	appended(t, l, 60, 2, 0)
	d.Fuse(0)
	if seg, at, err := l.Append(of(12)); seg != 0 || at != 0 || err != api.ErrDown {
		t.Errorf("Append, the power going at Create: %d, %d, %d", seg, at, err)
	}
	ends(t, l, 2, 60)
}

func TestRead(t *testing.T) {
	d := made(t, 10000)
	l := begun(t, d, 3, 64)
	read := func(seg, at uint64, want record.Record, size int, err api.Errno) {
		t.Helper()
		for i, f := range []func() (record.Record, int, api.Errno){
			func() (record.Record, int, api.Errno) { return l.Read(seg, at) },
			func() (record.Record, int, api.Errno) { return seglog.At(d, seg, at) },
		} {
			if r, n, e := f(); !record.Same(r, want) || n != size || e != err {
				t.Errorf("way %d: %d, %d: %v, %d, %d, want %v, %d, %d", i, seg, at, r, n, e, want, size, err)
			}
		}
	}
	none := record.Record{}
	read(3, 0, none, 0, api.ErrShort)
	read(3, 1, none, 0, api.ErrShort)
	for _, size := range []int{12, 40, 85} {
		_, _, err := l.Append(of(size))
		fine(t, err)
	}
	read(3, 0, of(12), 12, api.OK)
	read(3, 12, of(40), 40, api.OK)
	read(4, 0, of(85), 85, api.OK)
	read(3, 52, none, 0, api.ErrShort)
	read(3, 53, none, 0, api.ErrShort)
	read(3, math.MaxUint64, none, 0, api.ErrShort)
	read(3, 1, none, 0, api.ErrSum)
	read(3, 46, none, 0, api.ErrShort)
	read(3, 45, none, 0, api.ErrSum)
	read(5, 0, none, 0, api.ErrName)
	read(top+1, 0, none, 0, api.ErrArg)
	read(math.MaxUint64, math.MaxUint64, none, 0, api.ErrArg)
	b, _ := d.Read("m.3")
	b[20] ^= 1
	fine(t, d.Create("m.7"), d.Append("m.7", b))
	read(7, 0, of(12), 12, api.OK) // what is behind it counts for nothing
	read(7, 12, none, 0, api.ErrSum)
	fine(t, d.Cut("m.7", 30))
	read(7, 0, of(12), 12, api.OK)
	fine(t, d.Cut("m.7", 11))
	read(7, 0, none, 0, api.ErrShort)
	fine(t, d.Delete("m.7"))
	d.Fuse(0)
	d.DirSync()
	read(3, 0, none, 0, api.ErrDown)
	read(5, 0, none, 0, api.ErrDown)
	read(top+1, 0, none, 0, api.ErrArg)
}

func TestReadOfTheLongestRecord(t *testing.T) {
	d := made(t, 10000)
	l := begun(t, d, 1, 65536)
	long := record.Record{Kind: record.Live, N: slices.Repeat([]uint64{math.MaxUint64}, 10)}
	for range 10 {
		_, _, err := l.Append(long)
		fine(t, err)
	}
	for n := range uint64(10) {
		if r, size, err := l.Read(1, 111*n); !record.Same(r, long) || size != 111 || err != api.OK {
			t.Errorf("Read = %v, %d, %d", r, size, err)
		}
	}
}

// Frames may be longer than records: they are whole, and none of the kinds.
func TestReadOfTheLongestFrame(t *testing.T) {
	d := made(t, 10000)
	b, err := frame.Bytes(frame.Frame{Kind: 99, Body: make([]byte, 400)})
	fine(t, err, d.Create("m.1"), d.Append("m.1", b))
	if r, n, err := seglog.At(d, 1, 0); !record.Same(r, record.Record{}) || n != 0 || err != api.ErrForm {
		t.Errorf("At = %v, %d, %d", r, n, err)
	}
	fine(t, d.Cut("m.1", len(b)-1))
	if _, _, err := seglog.At(d, 1, 0); err != api.ErrShort {
		t.Errorf("At of all but a byte: %d", err)
	}
}

func TestOpen(t *testing.T) {
	d := made(t, 1000)
	l := begun(t, d, 1, 64)
	appended(t, l, 12, 1, 0)
	appended(t, l, 30, 1, 12)
	if m, err := seglog.Open(d, 2, 0, 64); m != nil || err != api.ErrName {
		t.Errorf("Open of no segment: %d", err)
	}
	for _, at := range []uint64{43, math.MaxUint64} {
		if m, err := seglog.Open(d, 1, at, 64); m != nil || err != api.ErrShort {
			t.Errorf("Open at %d of 42: %d", at, err)
		}
	}
	d.Fuse(0) // nothing is cut here, so nothing is done
	m, err := seglog.Open(d, 1, 42, 64)
	fine(t, err)
	ends(t, m, 1, 42)
	if m, err := seglog.Open(d, 1, 12, 64); m != nil || err != api.ErrDown {
		t.Errorf("Open, the power going at Cut: %d", err)
	}
	if m, err := seglog.Open(d, 1, 43, 64); m != nil || err != api.ErrDown {
		t.Errorf("Open without power: %d", err)
	}
	d.Crash(9, []int{99})
	m, err = seglog.Open(d, 1, 12, 80)
	fine(t, err)
	ends(t, m, 1, 12)
	holds(t, d, "m.1:12")
	appended(t, m, 68, 1, 12)
	appended(t, m, 12, 2, 0)
	m, err = seglog.Open(d, 1, 0, 80)
	fine(t, err)
	ends(t, m, 1, 0)
	holds(t, d, "m.1:0 m.2:12")
}

// costs fails the test, if f doesn't need just so many calls of the disk.
func costs(t *testing.T, want int, make func() (*disk.Disk, *seglog.Log)) {
	t.Helper()
	for n := range want + 1 {
		d, l := make()
		seg, at := l.End()
		d.Fuse(n)
		err := l.Sync()
		if n < want && err != api.ErrDown || n == want && err != api.OK || d.Down() != (n < want) {
			t.Errorf("Sync with a fuse of %d: %d, want %d calls", n, err, want)
		}
		if n == want {
			d.Fuse(0)
			fine(t, l.Sync()) // all is sure
		}
		ends(t, l, seg, at)
	}
}

func TestSyncDoesWhatIsNeeded(t *testing.T) {
	fresh := func(most int, records ...int) func() (*disk.Disk, *seglog.Log) {
		return func() (*disk.Disk, *seglog.Log) {
			d := made(t, 10000)
			l := begun(t, d, 5, most)
			for _, size := range records {
				_, _, err := l.Append(of(size))
				fine(t, err)
			}
			return d, l
		}
	}
	then := func(make func() (*disk.Disk, *seglog.Log), what func(*disk.Disk, *seglog.Log) *seglog.Log) func() (*disk.Disk, *seglog.Log) {
		return func() (*disk.Disk, *seglog.Log) {
			d, l := make()
			return d, what(d, l)
		}
	}
	add := func(sizes ...int) func(*disk.Disk, *seglog.Log) *seglog.Log {
		return func(d *disk.Disk, l *seglog.Log) *seglog.Log {
			fine(t, l.Sync())
			for _, size := range sizes {
				_, _, err := l.Append(of(size))
				fine(t, err)
			}
			return l
		}
	}
	costs(t, 2, fresh(64))                             // the segment, and the directory
	costs(t, 2, fresh(64, 12, 12))                     // likewise
	costs(t, 4, fresh(64, 60, 60, 60))                 // three segments, and the directory
	costs(t, 0, then(fresh(64, 60, 60), add()))        // nothing
	costs(t, 1, then(fresh(64, 12), add(12, 12)))      // the segment
	costs(t, 2, then(fresh(64, 60), add(60)))          // the new one, and the directory
	costs(t, 3, then(fresh(64, 12), add(12, 60)))      // both, and the directory
	costs(t, 0, then(fresh(64, 12, 60), reopened(12))) // Open takes all as sure
	costs(t, 1, then(fresh(64, 12, 60), reopened(48, 12)))
	costs(t, 2, then(fresh(64, 12, 60), reopened(60, 12)))
	costs(t, 3, then(fresh(64, 12, 60), reopened(12, 12, 60)))
	costs(t, 2, then(fresh(64, 60), func(d *disk.Disk, l *seglog.Log) *seglog.Log {
		fine(t, l.Sync(), d.Create("full"), d.Append("full", make([]byte, 10000-60)))
		if _, _, err := l.Append(of(12)); err != api.ErrFull {
			t.Fatalf("Append to a full disk: %d", err)
		}
		return l // a segment was begun, though nothing stands in it
	}))
}

// reopened opens the log again at the segment 6, and appends.
func reopened(at uint64, sizes ...int) func(*disk.Disk, *seglog.Log) *seglog.Log {
	return func(d *disk.Disk, _ *seglog.Log) *seglog.Log {
		l, err := seglog.Open(d, 6, at, 64)
		if err != api.OK {
			panic(err)
		}
		for _, size := range sizes {
			if _, _, err := l.Append(of(size)); err != api.OK {
				panic(err)
			}
		}
		return l
	}
}

func TestSyncAgainBehindAnError(t *testing.T) {
	d := made(t, 10000)
	l := begun(t, d, 1, 64)
	appended(t, l, 60, 1, 0)
	appended(t, l, 60, 2, 0)
	d.Fuse(2)
	if err := l.Sync(); err != api.ErrDown {
		t.Fatalf("Sync: %d", err)
	}
	d.Crash(9, []int{99, 99})
	d.Fuse(3)
	fine(t, l.Sync()) // nothing was taken as sure: both, and the directory
	if d.DirSync() != api.ErrDown {
		t.Error("Sync behind an error does less")
	}
	fine(t, l.Sync()) // and nothing more, even without power
}

func TestWhatWasSyncedIsThere(t *testing.T) {
	for seed := range 120 {
		r := rand.New(rand.NewPCG(15, uint64(seed)))
		d := made(t, 10000)
		l := begun(t, d, 1, 64+r.IntN(100))
		type place struct {
			seg, at uint64
			r       record.Record
		}
		var all []place
		sure := 0
		for range 25 {
			if r.IntN(5) == 0 {
				fine(t, l.Sync())
				sure = len(all)
				continue
			}
			x := record.Record{Kind: record.Message, N: []uint64{r.Uint64() >> r.UintN(64)}, Text: strings.Repeat("y", r.IntN(65))}
			seg, at, err := l.Append(x)
			fine(t, err)
			all = append(all, place{seg, at, x})
		}
		for _, p := range all {
			if x, _, err := l.Read(p.seg, p.at); err != api.OK || !record.Same(x, p.r) {
				t.Fatalf("%d, %d has %v, %d", p.seg, p.at, x, err)
			}
		}
		tails := make([]int, 30)
		for i := range tails {
			tails[i] = r.IntN(200) - 50
		}
		d.Crash(r.IntN(20)-1, tails)
		for i, p := range all {
			x, _, err := seglog.At(d, p.seg, p.at)
			if i < sure && (err != api.OK || !record.Same(x, p.r)) {
				t.Fatalf("what was sure is gone: %v, %d", x, err)
			}
			if err != api.OK && err != api.ErrShort && err != api.ErrName {
				t.Fatalf("what wasn't sure is turned: %d", err)
			}
		}
	}
}
