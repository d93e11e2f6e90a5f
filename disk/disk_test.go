package disk_test

import (
	"bytes"
	"math"
	"math/rand/v2"
	"slices"
	"strconv"
	"strings"
	"testing"

	"tumbrel/api"
	"tumbrel/disk"
)

func made(t *testing.T, room int) *disk.Disk {
	t.Helper()
	d, err := disk.New(room)
	if d == nil || err != api.OK {
		t.Fatalf("New(%d): %d", room, err)
	}
	return d
}

// fine fails the test at the first error.
func fine(t *testing.T, l ...api.Errno) {
	t.Helper()
	for i, err := range l {
		if err != api.OK {
			t.Fatalf("call %d: error %d", i+1, err)
		}
	}
}

// tell tells all names, with their files' bytes.
func tell(t *testing.T, d *disk.Disk) string {
	t.Helper()
	var l []string
	for _, name := range d.Names() {
		b, err := d.Read(name)
		if err != api.OK {
			t.Fatalf("Read(%q): %d", name, err)
		}
		l = append(l, name+"="+string(b))
	}
	return strings.Join(l, " ")
}

func has(t *testing.T, d *disk.Disk, want string) {
	t.Helper()
	if got := tell(t, d); got != want {
		t.Errorf("the disk has %q, want %q", got, want)
	}
}

func TestNew(t *testing.T) {
	for _, room := range []int{math.MinInt, -1, 0, 15, 1048577, math.MaxInt} {
		if d, err := disk.New(room); d != nil || err != api.ErrArg {
			t.Errorf("New(%d): %d", room, err)
		}
	}
	for _, room := range []int{16, 17, 1048576} {
		d := made(t, room)
		if len(d.Names()) != 0 || d.Held() != 0 || d.Down() {
			t.Errorf("New(%d) isn't empty", room)
		}
		fine(t, d.Create("a"), d.Append("a", make([]byte, room)))
		if err := d.Append("a", []byte{1}); err != api.ErrFull || d.Held() != room {
			t.Errorf("more than the room of %d: %d, %d held", room, err, d.Held())
		}
	}
}

func TestCreate(t *testing.T) {
	d := made(t, 16)
	for _, name := range []string{"", "A", "a b", "a/b", "abcdefghijklm", "a_", "é", "a\xff", "`", "{", "/", ":", "-", "a\x00"} {
		if err := d.Create(name); err != api.ErrArg {
			t.Errorf("Create(%q): %d", name, err)
		}
	}
	for _, name := range []string{"a", "z", "0", "9", ".", "..", "abcdefghijkl", "a.1"} {
		fine(t, d.Create(name))
		if err := d.Create(name); err != api.ErrTwice {
			t.Errorf("Create(%q) again: %d", name, err)
		}
	}
	if got := strings.Join(d.Names(), " "); got != ". .. 0 9 a a.1 abcdefghijkl z" {
		t.Errorf("Names: %s", got)
	}
}

func TestMostFiles(t *testing.T) {
	d := made(t, 16)
	for i := range 60 {
		fine(t, d.Create("f"+strconv.Itoa(i)))
	}
	for name, want := range map[string]api.Errno{"g": api.ErrFull, "f0": api.ErrTwice, "G": api.ErrArg} {
		if err := d.Create(name); err != want {
			t.Errorf("Create(%q), 60 being there: %d", name, err)
		}
	}
	fine(t, d.Rename("f0", "f1"), d.Create("g"), d.Delete("g"), d.Create("h"))
	if len(d.Names()) != 60 {
		t.Errorf("%d names", len(d.Names()))
	}
}

func TestAppendReadCut(t *testing.T) {
	d := made(t, 16)
	for _, err := range []api.Errno{d.Append("a", nil), d.Sync("a"), d.Cut("a", 0), d.Cut("a", -1), d.Rename("a", "b"), d.Rename("a", "B"), d.Delete("a")} {
		if err != api.ErrName {
			t.Errorf("of a name that isn't there: %d", err)
		}
	}
	if b, err := d.Read("a"); len(b) != 0 || err != api.ErrName {
		t.Errorf("Read of it: %q, %d", b, err)
	}
	fine(t, d.Create("a"))
	has(t, d, "a=")
	fine(t, d.Append("a", []byte("hello")), d.Append("a", nil), d.Append("a", []byte(" you")))
	has(t, d, "a=hello you")
	for _, n := range []int{-1, 10, math.MinInt, math.MaxInt} {
		if err := d.Cut("a", n); err != api.ErrArg {
			t.Errorf("Cut to %d of 9: %d", n, err)
		}
	}
	fine(t, d.Cut("a", 9), d.Cut("a", 4), d.Append("a", []byte("!")))
	has(t, d, "a=hell!")
	fine(t, d.Cut("a", 0))
	has(t, d, "a=")
	if d.Held() != 0 {
		t.Errorf("%d held", d.Held())
	}
}

func TestRenameAndDelete(t *testing.T) {
	d := made(t, 16)
	fine(t, d.Create("a"), d.Append("a", []byte("1")), d.Create("b"), d.Append("b", []byte("2")))
	for _, to := range []string{"", "A", "abcdefghijklm"} {
		if err := d.Rename("a", to); err != api.ErrArg {
			t.Errorf("Rename to %q: %d", to, err)
		}
	}
	fine(t, d.Rename("a", "a"))
	has(t, d, "a=1 b=2")
	fine(t, d.Rename("a", "b"))
	has(t, d, "b=1")
	fine(t, d.Append("b", []byte("+")), d.Rename("b", "c"), d.Create("b"))
	has(t, d, "b= c=1+")
	fine(t, d.Delete("b"), d.Delete("c"))
	has(t, d, "")
}

func TestHeld(t *testing.T) {
	d := made(t, 16)
	held := func(want int) {
		t.Helper()
		if d.Held() != want {
			t.Errorf("%d held, want %d", d.Held(), want)
		}
	}
	fine(t, d.Create("a"), d.Append("a", make([]byte, 5)), d.Create("b"), d.Append("b", make([]byte, 3)))
	held(8)
	fine(t, d.Delete("a"))
	held(8) // it was there since the last DirSync
	fine(t, d.DirSync())
	held(3)
	fine(t, d.Delete("b"), d.Create("b"), d.Append("b", make([]byte, 7)))
	held(10) // the old one is sure of the directory
	if err := d.Append("b", make([]byte, 7)); err != api.ErrFull {
		t.Errorf("Append above what is held: %d", err)
	}
	fine(t, d.Append("b", make([]byte, 6)))
	held(16)
	fine(t, d.Cut("b", 2))
	held(5)
	fine(t, d.Rename("b", "c"), d.Rename("c", "d"))
	held(5) // each file once
	fine(t, d.DirSync())
	held(2)
	fine(t, d.Create("e"), d.Append("e", make([]byte, 4)), d.Rename("e", "d"))
	held(6)
	d.Crash(1, []int{0, 2})
	held(2) // d's two bytes weren't sure, nor two of e's
	has(t, d, "d= e="+string(make([]byte, 2)))
}

func TestCrashKeepsABeginningOfTheChanges(t *testing.T) {
	for open, want := range map[int]string{math.MinInt: "a=1", -1: "a=1", 0: "a=1", 1: "a=1 b=", 2: "b=1", 3: "b=1 c=", 4: "c=", 5: "c= d=", 6: "c= e=", 7: "c= e=", math.MaxInt: "c= e="} {
		d := made(t, 16)
		fine(t, d.Create("a"), d.Append("a", []byte("1")), d.Sync("a"), d.DirSync())
		fine(t, d.Create("b"), d.Rename("a", "b"), d.Create("c"), d.Delete("b"), d.Create("d"), d.Rename("d", "e"))
		d.Crash(open, nil)
		if got := tell(t, d); got != want {
			t.Errorf("Crash(%d): %q, want %q", open, got, want)
		}
		if err := d.Create("x"); err != api.OK {
			t.Errorf("Create behind Crash: %d", err)
		}
		d.Crash(0, nil)
		if got := tell(t, d); got != want {
			t.Errorf("what a crash left isn't sure: %q, want %q", got, want)
		}
	}
}

func TestARenameToItselfIsAChange(t *testing.T) {
	d := made(t, 16)
	fine(t, d.Create("a"), d.DirSync(), d.Rename("a", "a"), d.Create("b"))
	d.Crash(1, nil)
	has(t, d, "a=")
}

func TestCrashKeepsABeginningOfTheBytes(t *testing.T) {
	for _, c := range []struct {
		tails []int
		want  string
	}{
		{nil, "a=12 b= c=xy"},
		{[]int{0, 0, 0}, "a=12 b= c=xy"},
		{[]int{-1, -5, math.MinInt}, "a=12 b= c=xy"},
		{[]int{1}, "a=123 b= c=xy"},
		{[]int{0, 2}, "a=12 b=pq c=xy"},
		{[]int{2, 1, 9}, "a=1234 b=p c=xy"},
		{[]int{3, 4, 0, 7, 7}, "a=1234 b=pqr c=xy"},
		{[]int{math.MaxInt, math.MaxInt, math.MaxInt}, "a=1234 b=pqr c=xy"},
	} {
		d := made(t, 32)
		fine(t, d.Create("a"), d.Append("a", []byte("12")), d.Sync("a"), d.Append("a", []byte("34")))
		fine(t, d.Create("c"), d.Append("c", []byte("xy")), d.Sync("c"), d.Create("b"), d.Append("b", []byte("pqr")))
		tails := slices.Clone(c.tails)
		d.Crash(9, tails)
		if got := tell(t, d); got != c.want {
			t.Errorf("tails %v: %q, want %q", c.tails, got, c.want)
		}
		if !slices.Equal(tails, c.tails) {
			t.Errorf("Crash changed its tails: %v", tails)
		}
		d.Crash(0, nil)
		if got := tell(t, d); got != c.want {
			t.Errorf("bytes that a crash left aren't sure: %q, want %q", got, c.want)
		}
	}
}

func TestTailsGoByTheNamesThatAreLeft(t *testing.T) {
	d := made(t, 32)
	fine(t, d.Create("b"), d.DirSync(), d.Append("b", []byte("12")), d.Create("a"), d.Append("a", []byte("34")))
	d.Crash(0, []int{1, 2})
	has(t, d, "b=1")
}

func TestCutIsAtOnce(t *testing.T) {
	d := made(t, 32)
	fine(t, d.Create("a"), d.Append("a", []byte("1234")), d.Sync("a"), d.DirSync(), d.Cut("a", 2), d.Append("a", []byte("567")))
	d.Crash(0, []int{1})
	has(t, d, "a=125")
	fine(t, d.Append("a", []byte("89")), d.Cut("a", 4))
	d.Crash(0, nil)
	has(t, d, "a=125") // what was cut wasn't sure, and what is left isn't either
}

func TestFuse(t *testing.T) {
	d := made(t, 64)
	fine(t, d.Create("a"), d.DirSync())
	calls := []func() api.Errno{
		func() api.Errno { return d.Append("a", []byte("x")) },
		func() api.Errno { return d.Append("a", nil) },
		func() api.Errno { return d.Sync("a") },
		func() api.Errno { return d.Sync("a") },
		func() api.Errno { return d.Cut("a", 1) },
		func() api.Errno { return d.Create("b") },
		func() api.Errno { return d.Rename("b", "b") },
		func() api.Errno { return d.Delete("b") },
		d.DirSync, d.DirSync,
	}
	for n := range len(calls) + 1 {
		d.Crash(9, []int{9, 9})
		d.Delete("b")
		fine(t, d.Cut("a", 0))
		d.Fuse(n)
		for i, call := range calls {
			// These don't count: they change nothing, or may not be.
			if _, err := d.Read("a"); i <= n && err != api.OK {
				t.Fatalf("Read ahead of the power's end: %d", err)
			}
			if i <= n && (d.Create("a") != api.ErrTwice || d.Create("") != api.ErrArg || d.Delete("no") != api.ErrName || d.Append("a", make([]byte, 65)) != api.ErrFull || d.Down()) {
				t.Fatalf("fuse %d, call %d: an error is another one", n, i)
			}
			err := call()
			if i < n && err != api.OK || i >= n && err != api.ErrDown || d.Down() != (i >= n) {
				t.Fatalf("fuse %d, call %d: %d, down: %v", n, i, err, d.Down())
			}
		}
	}
	d.Crash(0, nil)
	d.Fuse(0)
	d.Fuse(-1)
	for range 20 {
		fine(t, d.DirSync())
	}
	d.Fuse(1)
	d.Fuse(math.MinInt)
	fine(t, d.DirSync(), d.DirSync(), d.DirSync())
	d.Fuse(1)
	d.Crash(0, nil)
	fine(t, d.DirSync(), d.DirSync(), d.DirSync()) // a crash takes the fuse
}

func TestWithoutPower(t *testing.T) {
	d := made(t, 64)
	fine(t, d.Create("a"), d.Append("a", []byte("12")), d.Sync("a"), d.DirSync(), d.Append("a", []byte("34")), d.Create("b"))
	d.Fuse(0)
	if d.Down() || d.DirSync() != api.ErrDown || !d.Down() {
		t.Fatal("the power isn't gone")
	}
	d.Fuse(5)
	d.Fuse(-1)
	for i, err := range []api.Errno{d.Create(""), d.Create("a"), d.Append("no", nil), d.Append("a", []byte("5")), d.Append("a", make([]byte, 100)), d.Sync("no"), d.Sync("a"),
		d.Cut("a", -1), d.Cut("a", 0), d.Rename("no", "x"), d.Rename("a", ""), d.Rename("a", "c"), d.Delete("no"), d.Delete("a"), d.DirSync()} {
		if err != api.ErrDown {
			t.Errorf("call %d without power: %d", i, err)
		}
	}
	for _, name := range []string{"a", "no", ""} {
		if b, err := d.Read(name); len(b) != 0 || err != api.ErrDown {
			t.Errorf("Read(%q) without power: %q, %d", name, b, err)
		}
	}
	if got := strings.Join(d.Names(), " "); got != "a b" || d.Held() != 4 || !d.Down() {
		t.Errorf("without power: %s, %d held", got, d.Held())
	}
	d.Crash(0, []int{1})
	if d.Down() {
		t.Error("no power behind a crash")
	}
	has(t, d, "a=123")
}

func TestNothingIsShared(t *testing.T) {
	d := made(t, 64)
	b := []byte("12")
	fine(t, d.Create("a"), d.Append("a", b))
	b[0] = 'x'
	has(t, d, "a=12")
	c, _ := d.Read("a")
	c[0] = 'y'
	_ = append(c, 'z')
	fine(t, d.Append("a", []byte("3")))
	has(t, d, "a=123")
	d.Names()[0] = "q"
	has(t, d, "a=123")
	fine(t, d.Create("b"))
	e := made(t, 64)
	if len(e.Names()) != 0 {
		t.Error("disks share their files")
	}
}

// slow is a disk that is told as the chapter tells it: it keeps each directory that was since the last DirSync.
type slow struct {
	room, fuse int
	down       bool
	dirs       []map[string]*slowFile
}

type slowFile struct {
	b    []byte
	sure int
}

func (s *slow) now() map[string]*slowFile { return s.dirs[len(s.dirs)-1] }

func (s *slow) next() map[string]*slowFile {
	to := map[string]*slowFile{}
	for name, f := range s.now() {
		to[name] = f
	}
	s.dirs = append(s.dirs, to)
	return to
}

func (s *slow) held() int {
	seen := map[*slowFile]bool{}
	n := 0
	for _, dir := range s.dirs {
		for _, f := range dir {
			if !seen[f] {
				seen[f] = true
				n += len(f.b)
			}
		}
	}
	return n
}

func (s *slow) spend() api.Errno {
	if s.fuse == 0 {
		s.down = true
		return api.ErrDown
	}
	s.fuse--
	return api.OK
}

// do does one call of the seven, and tells its error.
func (s *slow) do(what int, a, b string, data []byte, n int) api.Errno {
	f := s.now()[a]
	switch {
	case s.down:
		return api.ErrDown
	case what == 0 && f != nil:
		return api.ErrTwice
	case what != 0 && what != 6 && f == nil:
		return api.ErrName
	case what == 1 && s.held()+len(data) > s.room:
		return api.ErrFull
	case what == 3 && (n < 0 || n > len(f.b)):
		return api.ErrArg
	}
	if err := s.spend(); err != api.OK {
		return err
	}
	switch what {
	case 0:
		s.next()[a] = &slowFile{}
	case 1:
		f.b = append(f.b, data...)
	case 2:
		f.sure = len(f.b)
	case 3:
		f.b, f.sure = f.b[:n], min(f.sure, n)
	case 4:
		dir := s.next()
		delete(dir, a)
		dir[b] = f
	case 5:
		delete(s.next(), a)
	case 6:
		s.dirs = []map[string]*slowFile{s.now()}
	}
	return api.OK
}

func (s *slow) crash(open int, tails []int) {
	s.dirs = []map[string]*slowFile{s.dirs[min(max(open, 0), len(s.dirs)-1)]}
	var names []string
	for name := range s.now() {
		names = append(names, name)
	}
	slices.Sort(names)
	for i, name := range names {
		f := s.now()[name]
		if i < len(tails) {
			f.sure = min(f.sure+max(tails[i], 0), len(f.b))
		}
		f.b = f.b[:f.sure]
	}
	s.down, s.fuse = false, -1
}

func act(d *disk.Disk, what int, a, b string, data []byte, n int) api.Errno {
	switch what {
	case 0:
		return d.Create(a)
	case 1:
		return d.Append(a, data)
	case 2:
		return d.Sync(a)
	case 3:
		return d.Cut(a, n)
	case 4:
		return d.Rename(a, b)
	case 5:
		return d.Delete(a)
	}
	return d.DirSync()
}

func TestAsTheSlowOne(t *testing.T) {
	names := []string{"a", "b", "c", "d.1"}
	for seed := range 300 {
		r := rand.New(rand.NewPCG(6, uint64(seed)))
		d := made(t, 40)
		s := &slow{room: 40, fuse: -1, dirs: []map[string]*slowFile{{}}}
		for step := range 150 {
			switch what := r.IntN(10); {
			case what < 8:
				what = min(what, 6)
				a, b, n := names[r.IntN(4)], names[r.IntN(4)], r.IntN(9)-1
				data := bytes.Repeat([]byte{byte('a' + step%26)}, r.IntN(9))
				if got, want := act(d, what, a, b, data, n), s.do(what, a, b, data, n); got != want {
					t.Fatalf("seed %d, step %d: call %d of %s: %d, want %d", seed, step, what, a, got, want)
				}
			case what == 8 && r.IntN(3) == 0:
				n := r.IntN(12) - 1
				d.Fuse(n)
				s.fuse = n
			case what == 9 && r.IntN(3) == 0:
				open, tails := r.IntN(8)-1, []int{r.IntN(8) - 1, r.IntN(8) - 1, r.IntN(8) - 1}[:r.IntN(4)]
				d.Crash(open, tails)
				s.crash(open, tails)
			}
			agree(t, d, s, seed, step)
		}
	}
}

func agree(t *testing.T, d *disk.Disk, s *slow, seed, step int) {
	t.Helper()
	if d.Held() != s.held() || d.Held() > 40 || d.Down() != s.down || len(d.Names()) != len(s.now()) {
		t.Fatalf("seed %d, step %d: %d held, %v; want %d, %d names", seed, step, d.Held(), d.Names(), s.held(), len(s.now()))
	}
	for _, name := range d.Names() {
		f := s.now()[name]
		b, err := d.Read(name)
		if f == nil || s.down && err != api.ErrDown || !s.down && (err != api.OK || !bytes.Equal(b, f.b)) {
			t.Fatalf("seed %d, step %d: %s has %q, %d", seed, step, name, b, err)
		}
	}
}
