package sum_test

import (
	"bytes"
	"hash/crc32"
	"math/rand/v2"
	"testing"

	"tumbrel/sum"
)

// slow is the sum, bit by bit, as the chapter tells it.
func slow(b []byte) uint32 {
	n := uint32(0xffffffff)
	for _, c := range b {
		n ^= uint32(c)
		for range 8 {
			if n%2 == 1 {
				n = n/2 ^ 0x82f63b78
			} else {
				n /= 2
			}
		}
	}
	return ^n
}

func some(r *rand.Rand, most int) []byte {
	b := make([]byte, r.IntN(most+1))
	for i := range b {
		b[i] = byte(r.UintN(256))
	}
	return b
}

func TestOfIsThePublishedSum(t *testing.T) {
	for _, c := range []struct {
		text string
		want uint32
	}{
		{"", 0},
		{"a", 0xc1d04330},
		{"abc", 0x364b3fb7},
		{"123456789", 0xe3069283},
		{"\x00", 0x527d5351},
		{string(make([]byte, 32)), 0x8a9136aa},
		{string(bytes.Repeat([]byte{0xff}, 32)), 0x62a8ab43},
	} {
		if n := sum.Of([]byte(c.text)); n != c.want {
			t.Errorf("Of(%q) = %08x, want %08x", c.text, n, c.want)
		}
	}
	if n := sum.Of(nil); n != 0 {
		t.Errorf("Of(nil) = %08x", n)
	}
	r := rand.New(rand.NewPCG(1, 1))
	published := crc32.MakeTable(crc32.Castagnoli)
	for range 500 {
		b := some(r, 70)
		if n := sum.Of(b); n != slow(b) || n != crc32.Checksum(b, published) {
			t.Fatalf("Of(%x) = %08x", b, n)
		}
	}
}

func TestOfEachByte(t *testing.T) {
	for c := range 256 {
		b := []byte{byte(c)}
		if n := sum.Of(b); n != slow(b) {
			t.Errorf("Of(%x) = %08x, want %08x", b, n, slow(b))
		}
	}
}

func TestTableDividesEachByteEightTimes(t *testing.T) {
	l := sum.Table()
	for i := range 256 {
		n := uint32(i)
		for range 8 {
			if n%2 == 1 {
				n = n/2 ^ 0x82f63b78
			} else {
				n /= 2
			}
		}
		if l[i] != n {
			t.Errorf("Table()[%d] = %08x, want %08x", i, l[i], n)
		}
	}
}

func TestMoreGoesOnFromAnySum(t *testing.T) {
	for _, n := range []uint32{0, 1, 7, 0x80000000, 0xffffffff} {
		if m := sum.More(n, nil); m != n {
			t.Errorf("More(%x, none) = %x", n, m)
		}
	}
	r := rand.New(rand.NewPCG(1, 2))
	for range 200 {
		a, b, c := some(r, 20), some(r, 20), some(r, 20)
		all := bytes.Join([][]byte{a, b, c}, nil)
		if n := sum.More(sum.More(sum.Of(a), b), c); n != sum.Of(all) {
			t.Fatalf("parts %x %x %x: %08x, want %08x", a, b, c, n, sum.Of(all))
		}
		if n := sum.More(0, b); n != sum.Of(b) {
			t.Fatalf("More(0, %x) = %08x", b, n)
		}
	}
}

func TestPutPutsTheLowestByteOfTheSumFirst(t *testing.T) {
	want := append([]byte("123456789"), 0x83, 0x92, 0x06, 0xe3)
	if p := sum.Put([]byte("123456789")); !bytes.Equal(p, want) {
		t.Errorf("Put = %x, want %x", p, want)
	}
	if p := sum.Put(nil); !bytes.Equal(p, make([]byte, 4)) {
		t.Errorf("Put(nil) = %x", p)
	}
}

func TestCutTakesWhatPutPut(t *testing.T) {
	r := rand.New(rand.NewPCG(1, 3))
	for range 200 {
		b := some(r, 40)
		c, is := sum.Cut(sum.Put(b))
		if !is || !bytes.Equal(c, b) {
			t.Fatalf("Cut(Put(%x)) = %x, %v", b, c, is)
		}
	}
}

func TestCutHasNothingOfOtherBytes(t *testing.T) {
	for _, b := range [][]byte{nil, {}, {0}, {0, 0}, {0, 0, 0}, {1, 0, 0, 0}, {0, 0, 0, 1}, {0, 0, 0, 0, 0}, {0x51, 0x53, 0x7d, 0x52}} {
		if c, is := sum.Cut(b); is || len(c) != 0 {
			t.Errorf("Cut(%x) = %x, %v", b, c, is)
		}
	}
	p := sum.Put([]byte("hello"))
	for _, b := range [][]byte{p[:len(p)-1], p[1:], append(bytes.Clone(p), 0)} {
		if c, is := sum.Cut(b); is || len(c) != 0 {
			t.Errorf("Cut(%x) = %x, %v", b, c, is)
		}
	}
}

// A burst is up to 32 bits, one behind the other, in each byte the lowest one first.
func turned(b []byte, from int, burst uint32) []byte {
	q := bytes.Clone(b)
	for i := range 32 {
		if at := from + i; burst>>i&1 == 1 && at < 8*len(q) {
			q[at/8] ^= 1 << (at % 8)
		}
	}
	return q
}

func TestCutHasNothingOfTurnedBits(t *testing.T) {
	r := rand.New(rand.NewPCG(1, 4))
	for _, n := range []int{0, 1, 2, 9, 30} {
		p := sum.Put(some(r, n))
		for from := range 8 * len(p) {
			for range 20 {
				q := turned(p, from, r.Uint32()|1)
				if c, is := sum.Cut(q); is || len(c) != 0 {
					t.Fatalf("Cut(%x), turned from %x: %x, %v", q, p, c, is)
				}
			}
			if _, is := sum.Cut(turned(p, from, 1)); is {
				t.Fatalf("bit %d of %x turned, and it is whole", from, p)
			}
			if _, is := sum.Cut(turned(p, from, 0xffffffff)); is {
				t.Fatalf("32 bits from %d of %x turned, and it is whole", from, p)
			}
		}
	}
}

func TestAnswersShareNothing(t *testing.T) {
	b := make([]byte, 3, 20)
	copy(b, "abc")
	p := sum.Put(b)
	p[0] = 'x'
	if string(b) != "abc" || !bytes.Equal(b[:7][3:], make([]byte, 4)) {
		t.Errorf("Put wrote into its argument: %q", b[:7])
	}
	p = sum.Put([]byte("abc"))
	c, _ := sum.Cut(p)
	c[0] = 'x'
	_ = append(c, 'y')
	if !bytes.Equal(p, sum.Put([]byte("abc"))) {
		t.Errorf("Cut's answer shares its argument: %x", p)
	}
	l := sum.Table()
	l[1] = 0
	if sum.Table()[1] == 0 {
		t.Error("Table is kept from call to call")
	}
}
