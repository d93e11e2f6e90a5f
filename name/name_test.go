package name_test

import (
	"math"
	"math/rand/v2"
	"slices"
	"strconv"
	"testing"

	"tumbrel/api"
	"tumbrel/disk"
	"tumbrel/name"
)

func TestOf(t *testing.T) {
	for _, c := range []struct {
		kind byte
		n    uint64
		want string
	}{{'m', 12, "m.12"}, {'e', 0, "e.0"}, {'s', 9999999999, "s.9999999999"}, {'m', 10, "m.10"}, {'s', 1, "s.1"}} {
		if s, err := name.Of(c.kind, c.n); s != c.want || err != api.OK {
			t.Errorf("Of(%c, %d) = %q, %d", c.kind, c.n, s, err)
		}
		if k, n, is := name.Read(c.want); k != c.kind || n != c.n || !is {
			t.Errorf("Read(%q) = %c, %d, %v", c.want, k, n, is)
		}
	}
	for kind := range 256 {
		known := kind == 'm' || kind == 'e' || kind == 's'
		for _, n := range []uint64{0, 7, 9999999999, 10000000000, 10000000001, math.MaxUint64} {
			s, err := name.Of(byte(kind), n)
			if right := known && n < 10000000000; right != (err == api.OK) || right != (s != "") || !right && err != api.ErrArg {
				t.Errorf("Of(%d, %d) = %q, %d", kind, n, s, err)
			}
		}
	}
}

func TestReadOfWhatIsNone(t *testing.T) {
	for _, s := range []string{"", "m", "m.", ".", ".1", "1", "m1", "m.00", "m.01", "m.012", "m.12345678901", "m.10000000000", "m.18446744073709551617", "M.1", "a.1", "root", "root.new",
		"m.1 ", " m.1", "m.1a", "m.a", "m.-1", "m.+1", "m..1", "m.1.", "mm.1", "m,1", "m.١", "m.\xff", "\xff.1", "m.1\n", "m./", "m.:", "m.0x1", "m.0_1"} {
		if k, n, is := name.Read(s); k != 0 || n != 0 || is {
			t.Errorf("Read(%q) = %c, %d, %v", s, k, n, is)
		}
	}
}

func TestNamesComeBackAndMayBeFiles(t *testing.T) {
	r := rand.New(rand.NewPCG(14, 1))
	d, _ := disk.New(16)
	seen := map[string]bool{}
	for i := range 600 {
		n := uint64(i)
		if i >= 100 {
			n = r.Uint64N(10000000000) >> r.UintN(34)
		}
		for _, kind := range []byte("mes") {
			s, err := name.Of(kind, n)
			k, m, is := name.Read(s)
			if err != api.OK || k != kind || m != n || !is || s != string(rune(kind))+"."+strconv.FormatUint(n, 10) {
				t.Fatalf("%c and %d are %q: %c, %d, %v", kind, n, s, k, m, is)
			}
			if i < 100 && seen[s] {
				t.Fatalf("%q is two's", s)
			}
			seen[s] = true
			if err := d.Create(s); err != api.OK {
				t.Fatalf("%q may not be a file's: %d", s, err)
			}
			d.Delete(s)
		}
	}
}

func TestWhatIsReadIsThatName(t *testing.T) {
	r := rand.New(rand.NewPCG(14, 2))
	letters := "mesx.0129 "
	for range 20000 {
		b := make([]byte, 1+r.IntN(5))
		for i := range b {
			b[i] = letters[r.IntN(len(letters))]
		}
		if k, n, is := name.Read(string(b)); is {
			if s, err := name.Of(k, n); s != string(b) || err != api.OK {
				t.Fatalf("Read(%q) = %c, %d, whose name is %q", b, k, n, s)
			}
		}
	}
}

func TestOnly(t *testing.T) {
	l := []string{"m.9", "e.3", "root", "m.10", "m.1", "m.01", "s.5", "", "m.9", "m.0", "M.4", "m.9999999999"}
	before := slices.Clone(l)
	for _, c := range []struct {
		kind byte
		want []uint64
	}{{'m', []uint64{0, 1, 9, 9, 10, 9999999999}}, {'e', []uint64{3}}, {'s', []uint64{5}}, {'x', nil}, {0, nil}, {'M', nil}, {'r', nil}} {
		if got := name.Only(l, c.kind); !slices.Equal(got, c.want) {
			t.Errorf("Only of %c: %v, want %v", c.kind, got, c.want)
		}
	}
	if got := name.Only(nil, 'm'); len(got) != 0 {
		t.Errorf("Only of none: %v", got)
	}
	if !slices.Equal(l, before) {
		t.Errorf("Only changed its argument: %v", l)
	}
}
