package label_test

import (
	"math"
	"math/rand/v2"
	"slices"
	"strings"
	"testing"

	"tumbrel/label"
)

// some is a text of bytes, whole runes and pieces of runes.
func some(r *rand.Rand) string {
	runes := []rune{'a', 'z', 'A', 'Z', '0', '9', ' ', 912, 913, 929, 930, 931, 937, 938, 944, 945, 961, 962, 963, 969, 970, 65533, 0x1f600}
	var b strings.Builder
	for range r.IntN(10) {
		if r.IntN(5) == 0 {
			b.WriteByte(byte(r.UintN(256)))
		} else {
			b.WriteRune(runes[r.IntN(len(runes))])
		}
	}
	return b.String()
}

func TestRightTakesLetters(t *testing.T) {
	for _, s := range []string{"a", "z", "0", "9", "abcdefgh", "12345678", "α", "ω", "ς", "αβγδεζηθ", "a1ω"} {
		if !label.Right(s) {
			t.Errorf("%q is not right", s)
		}
	}
	for _, s := range []string{"", "abcdefghi", "αβγδεζηθι", "A", "Z", "aB", "Α", "Ω", "ά", "ϊ", "a b", "a.", "`", "{", "/", ":", "a\xff", "\xff", "\xce", "ab\n", "é", "a\x00"} {
		if label.Right(s) {
			t.Errorf("%q is right", s)
		}
	}
}

func TestRightOfEachRune(t *testing.T) {
	for n := range 0x3000 {
		want := n >= 97 && n <= 122 || n >= 48 && n <= 57 || n >= 945 && n <= 969
		if got := label.Right(string(rune(n))); got != want {
			t.Errorf("Right of the rune %d is %v", n, got)
		}
	}
}

func TestFoldOfEachRune(t *testing.T) {
	for n := range 0x3000 {
		want := n
		switch {
		case n >= 65 && n <= 90, n >= 913 && n <= 937 && n != 930:
			want = n + 32
		case n == 962:
			want = 963
		}
		if got := label.Fold(string(rune(n))); got != string(rune(want)) {
			t.Errorf("the rune %d is folded to %q, not %q", n, got, string(rune(want)))
		}
	}
}

func TestFold(t *testing.T) {
	for _, c := range [][2]string{
		{"", ""}, {"Ab9", "ab9"}, {"ΑΩ", "αω"}, {"ΟΔΟΣ", "οδοσ"}, {"οδος", "οδοσ"}, {"É é", "É é"},
		{"\xff", "\uFFFD"}, {"A\xffB", "a\uFFFDb"}, {"\xce", "\uFFFD"}, {"\xe2\x82", "\uFFFD\uFFFD"}, {"\U0001F600Z", "\U0001F600z"},
	} {
		if s := label.Fold(c[0]); s != c[1] {
			t.Errorf("Fold(%q) = %q, want %q", c[0], s, c[1])
		}
	}
	r := rand.New(rand.NewPCG(3, 1))
	for range 2000 {
		s := some(r)
		f := label.Fold(s)
		if label.Fold(f) != f || label.Len(f) != label.Len(s) {
			t.Fatalf("Fold(%q) = %q, and again %q", s, f, label.Fold(f))
		}
	}
}

func TestLen(t *testing.T) {
	for _, c := range []struct {
		s    string
		want int
	}{{"", 0}, {"abc", 3}, {"αβγ", 3}, {"a\xff\xfe", 3}, {"\xe2\x82", 2}, {"\U0001F600", 1}, {strings.Repeat("ω", 1000), 1000}} {
		if n := label.Len(c.s); n != c.want {
			t.Errorf("Len(%q) = %d, want %d", c.s, n, c.want)
		}
	}
}

func TestCut(t *testing.T) {
	for _, c := range []struct {
		s    string
		n    int
		want string
	}{
		{"abc", 2, "ab"}, {"abc", 3, "abc"}, {"abc", 4, "abc"}, {"abc", 0, ""}, {"abc", -1, ""}, {"abc", math.MinInt, ""}, {"abc", math.MaxInt, "abc"},
		{"", 1, ""}, {"", 0, ""}, {"αβγ", 1, "α"}, {"αβγ", 2, "αβ"}, {"a\xffβ", 2, "a\xff"}, {"\xe2\x82x", 1, "\xe2"}, {"\U0001F600b", 1, "\U0001F600"},
	} {
		if s := label.Cut(c.s, c.n); s != c.want {
			t.Errorf("Cut(%q, %d) = %q, want %q", c.s, c.n, s, c.want)
		}
	}
	r := rand.New(rand.NewPCG(3, 2))
	for range 2000 {
		s, n := some(r), r.IntN(12)-1
		c := label.Cut(s, n)
		if !strings.HasPrefix(s, c) || label.Len(c) != min(max(n, 0), label.Len(s)) {
			t.Fatalf("Cut(%q, %d) = %q", s, n, c)
		}
	}
}

func TestLess(t *testing.T) {
	rising := []string{"", "0", "9", "A", "a", "aa", "ab", "b", "z", "α", "αα", "ω", "\uFFFD", "\uFFFDa", "\U0001F600"}
	for i, a := range rising {
		for j, b := range rising {
			if label.Less(a, b) != (i < j) {
				t.Errorf("Less(%q, %q) = %v", a, b, i >= j)
			}
		}
	}
	// A piece of a rune is the rune 65533, whichever byte it is; by bytes these would stand otherwise.
	for _, c := range [][2]string{{"\xff", "\xfe"}, {"\xff", "\uFFFD"}, {"a\x80", "a\xbf"}} {
		if label.Less(c[0], c[1]) || label.Less(c[1], c[0]) {
			t.Errorf("%q and %q have the same runes", c[0], c[1])
		}
	}
	if !label.Less("\xff", "\U0001F600") || label.Less("\U0001F600", "\xff") || !label.Less("\uE000", "\x80") {
		t.Error("a piece of a rune stands where 65533 does")
	}
}

func TestLessGoesByRunes(t *testing.T) {
	r := rand.New(rand.NewPCG(3, 3))
	for range 5000 {
		a, b := some(r), some(r)
		if want := slices.Compare([]rune(a), []rune(b)) < 0; label.Less(a, b) != want {
			t.Fatalf("Less(%q, %q) = %v", a, b, !want)
		}
		if same := slices.Equal([]rune(a), []rune(b)); same != (!label.Less(a, b) && !label.Less(b, a)) {
			t.Fatalf("%q and %q: the same runes: %v", a, b, same)
		}
	}
}
