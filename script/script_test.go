package script_test

import (
	"math"
	"math/rand/v2"
	"slices"
	"strconv"
	"strings"
	"testing"

	"tumbrel/api"
	"tumbrel/script"
)

// tells fails the test, if lines, parted by semicolons, aren't answered just so.
func tells(t *testing.T, room int, lines, want string) {
	t.Helper()
	text := strings.ReplaceAll(lines, "; ", "\n")
	got, err := script.Run(room, text)
	if got = strings.ReplaceAll(strings.TrimSuffix(got, "\n"), "\n", "; "); got != want || err != api.OK {
		t.Errorf("%s\n got %s, %d\nwant %s", lines, got, err, want)
	}
}

func TestWords(t *testing.T) {
	for _, c := range []struct {
		line string
		want []string
	}{
		{"", nil}, {" ", nil}, {"    ", nil}, {"a", []string{"a"}}, {" a ", []string{"a"}}, {"a b", []string{"a", "b"}}, {"  put   0  0 hi ", []string{"put", "0", "0", "hi"}},
		{"a\tb c\rd", []string{"a\tb", "c\rd"}}, {"é \xff\xfe ω\xe2", []string{"é", "\xff\xfe", "ω\xe2"}}, {"\u00a0 \u2003", []string{"\u00a0", "\u2003"}}, {"a\nb", []string{"a\nb"}}, {"a a a", []string{"a", "a", "a"}}, {"\x00 \x00", []string{"\x00", "\x00"}},
	} {
		if got := script.Words(c.line); !slices.Equal(got, c.want) {
			t.Errorf("Words(%q) = %q, want %q", c.line, got, c.want)
		}
	}
}

func TestRunsErrors(t *testing.T) {
	for _, room := range []int{math.MinInt, -1, 0, 15, 1048577, math.MaxInt} {
		if s, err := script.Run(room, "stats"); s != "" || err != api.ErrArg {
			t.Errorf("Run(%d) = %q, %d", room, s, err)
		}
	}
	for _, n := range []int{5001, 6000, 1 << 20} {
		if s, err := script.Run(1000, strings.Repeat(" ", n)); s != "" || err != api.ErrArg {
			t.Errorf("Run of %d bytes = %q, %d", n, s, err)
		}
	}
	if s, err := script.Run(16, strings.Repeat(" ", 4999)+"x"); s != "error 2\n" || err != api.OK {
		t.Errorf("Run of 5000 bytes = %q, %d", s, err)
	}
	if s, err := script.Run(1048576, ""); s != "" || err != api.OK {
		t.Errorf("Run of nothing = %q, %d", s, err)
	}
	if s, err := script.Run(16, "\n \n\n"); s != "" || err != api.OK {
		t.Errorf("Run of lines without words = %q, %d", s, err)
	}
}

func TestEachCommand(t *testing.T) {
	tells(t, 1000, "new 1 8 2 64; put 0 0 hi; lease -1 5", "ok; ok 1; ok 1 1 0 1 hi")
	tells(t, 1000, "new 2 8 2 64; put 1 0; put 0 0 a; put 0 3 b; stats", "ok; ok 1; ok 2; ok 3; ok 0 4 1 1 1 0 0")
	tells(t, 1000, "new 2 8 2 64; put 1 0; put 1 0 x; peek 1; peek 0; peek -1; lease 1 5; peek 1", "ok; ok 1; ok 2; ok 1 0 1 0; error 11; ok 1 0 1 0; ok 1 1 1 1; ok 2 0 1 0 x")
	tells(t, 1000, "new 1 8 2 64; put 0 0 a; put 0 0; put 0 0 c; drain 0 5 2; drain -1 5 99; drain 0 5 1; drain 0 0 0", "ok; ok 1; ok 2; ok 3; ok 1 1 0 1 a 2 2 0 1; ok 3 3 0 1 c; ok; ok")
	tells(t, 1000, "new 1 8 2 64; put 0 0 a; lease 0 5; ack 2; ack 1; ack 1", "ok; ok 1; ok 1 1 0 1 a; error 9; ok; error 9")
	tells(t, 1000, "new 1 8 2 64; put 0 0 a; lease 0 5; nack 1 3; tick 2; tick 1; lease 0 5; extend 2 9; tick 8; tick 1; dead", "ok; ok 1; ok 1 1 0 1 a; ok; ok 0; ok 1; ok 1 2 0 2 a; ok; ok 0; ok 1; ok 1")
	tells(t, 1000, "new 1 8 1 64; dead; put 0 0 a; put 0 0 b; drain 0 1 2; tick 1; dead; next Ab 1; next aB 9; next c 5; requeue 2; purge 1; dead; purge 1; requeue 2; peek 0", "ok; ok; ok 1; ok 2; ok 1 1 0 1 a 2 2 0 1 b; ok 2; ok 1 2; ok 1; ok 2; ok 1 2; ok; ok; ok; error 5; error 5; ok 2 0 0 0 b")
	tells(t, 1000, "new 1 8 1 64; sync; pack; stats; open; stats", "ok; ok; ok; ok 0 1 0 0 0 0; ok; ok 0 1 0 0 0 0")
	tells(t, 1000, "new 8 8 1 64; stats", "ok; ok 0 1 0 0 0 0 0 0 0 0 0 0 0")
	tells(t, 1000, "new 1 8 1 64; fuse 1; put 0 0 a; sync; crash 0; open; fuse -1; put 0 0 a", "ok; ok; error 7; error 7; ok; ok; ok; ok 1")
	tells(t, 1000, "new 1 8 2 64; put 0 0 a; crash 9 99 99 99; lease 0 1; open; lease 0 1", "ok; ok 1; ok; error 5; ok; ok 1 1 0 1 a")
}

func TestTailsOfACrash(t *testing.T) {
	// The files are e.1, m.1, root and s.1: the events have 11 bytes of Opened, and 16 of Put; the message has 13.
	for _, c := range [][2]string{{"0", "0 1 0"}, {"0 27", "0 1 0"}, {"0 27 12", "0 1 0"}, {"0 27 13", "0 2 1"}, {"0 99 99", "0 2 1"}, {"0 26 99", "0 1 0"}, {"-1 -1 99", "0 1 0"}} {
		tells(t, 1000, "new 1 8 2 64; put 0 0 a; crash "+c[0]+"; open; stats", "ok; ok 1; ok; ok; ok "+c[1]+" 0 0 0")
	}
}

func TestWhatIsNoCommand(t *testing.T) {
	bad := []string{
		"x", "NEW 1 8 2 64", "New", "put", "put 0", "put 0 0 a b", "put x 0", "put 0 -1", "put 0 x a", "new", "new 1 8 2", "new 1 8 2 64 1", "new 1 8 2 x", "open 1", "lease", "lease 0", "lease 0 1 2", "lease 0 -1",
		"drain 0 1", "drain 0 1 2 3", "drain 0 1 x", "ack", "ack 1 2", "ack -1", "nack 1", "nack 1 2 3", "nack 1 -2", "extend 1", "extend 1 2 3", "tick", "tick 1 2", "tick -1", "peek", "peek 1 2", "peek 1.0",
		"dead 1", "next a", "next", "next a 1 2", "next a x", "requeue", "requeue 1 2", "requeue a", "purge", "purge 1 2", "purge -1", "stats 1", "sync 1", "pack 1", "fuse", "fuse 1 2", "fuse x", "crash", "crash x", "crash 1 x", "crash 1 2 x 3",
		"tick 18446744073709551616", "tick 99999999999999999999", "tick 000000000000000000001", "tick 123456789012345678901", "tick +1", "tick 0x1", "tick 1_0", "tick ١", "tick 1e1", "peek 1234567890", "peek 0000000000", "peek -1234567890", "peek --1", "peek -", "peek +1", "peek 1-", "fuse -", "ack \xff", "put\t0 0",
	}
	text := "new 1 8 2 64\nput 0 0 a\n"
	want := "ok\nok 1\n"
	for i, line := range bad {
		if i%4 == 0 {
			tells(t, 1000, line, "error 2") // ahead of there being no queue
		}
		text += line + "\n"
		want += "error 2\n"
	}
	text += "stats\n"
	want += "ok 0 2 1 0 0 0\n"
	if got, err := script.Run(1000, text); got != want || err != api.OK {
		t.Errorf("got %q, %d", got, err)
	}
}

func TestNumbers(t *testing.T) {
	tells(t, 1000, "new 01 000000008 2 64; put -0 00000000000000000000 a; put 0 00000000000000000001 b; tick 18446744073709551615; tick 1; tick 0; stats", "ok; ok 1; ok 2; ok 1; error 10; ok 0; ok 18446744073709551615 3 2 0 0 0")
	tells(t, 1000, "new 1 8 2 64; lease 999999999 1; lease -999999999 1; drain -1 18446744073709551615 999999999; put 0 0; drain -1 18446744073709551615 -999999999; ack 18446744073709551615", "ok; error 1; error 1; ok; ok 1; ok; error 9")
}

func TestCallsOfAQueueThatIsntOpen(t *testing.T) {
	for _, line := range []string{"put 0 0", "put 9 0 a", "lease 0 0", "drain 0 1 0", "ack 1", "nack 1 1", "extend 1 1", "tick 0", "peek 9", "dead", "next a 0", "requeue 1", "purge 1", "stats", "sync", "pack"} {
		tells(t, 1000, line+"; fuse 9; crash 0; "+line, "error 5; ok; ok; error 5")
		tells(t, 1000, "new 1 8 2 64; new 1 8 2 64; "+line, "ok; error 6; error 5")
		tells(t, 1000, "new 1 8 2 64; fuse 0; open; "+line, "ok; ok; error 7; error 5")
		tells(t, 1000, "open; "+line, "error 5; error 5")
		tells(t, 1000, "new 9 8 2 64; "+line, "error 1; error 5")
		tells(t, 1000, "new 1 8 2 64; crash 0; "+line, "ok; ok; error 5")
		tells(t, 1000, "new 1 8 2 64; new 1 8 2; stats", "ok; error 2; ok 0 1 0 0 0 0")
	}
}

func TestErrorsOfCalls(t *testing.T) {
	tells(t, 16, "new 1 8 2 64", "error 4")
	tells(t, 1000, "new 1 8 2 64; put 1 0; put -1 0; put 0 0 123456789; lease 1 1; lease 0 0; lease 0 1; drain 1 1 1; peek 1; next a 0; next a-b 1; next abcdefghi 1; tick 1; put 0 18446744073709551615", "ok; error 1; error 1; error 1; error 1; error 1; error 11; error 1; error 1; error 1; error 1; error 1; ok 0; error 10")
	tells(t, 1000, "new 1 8 2 64; put 0 0 a; put 0 0 b; fuse 1; drain 0 5 2; crash 0; open", "ok; ok 1; ok 2; ok; error 7; ok; ok")
}

// The ten examples of the whole.
func TestTenExamples(t *testing.T) {
	tells(t, 1000, "new 1 8 2 64; put 0 0 a; lease -1 5; ack 1; stats", "ok; ok 1; ok 1 1 0 1 a; ok; ok 0 2 0 0 0 0")
	tells(t, 1000, "new 2 8 2 64; put 1 0 a; put 0 0 b; lease -1 5; lease -1 5", "ok; ok 1; ok 2; ok 2 1 0 1 b; ok 1 2 1 1 a")
	tells(t, 1000, "new 1 8 2 64; put 0 3 a; tick 2; lease -1 5; tick 1; lease -1 5", "ok; ok 1; ok 0; error 11; ok 1; ok 1 1 0 1 a")
	tells(t, 1000, "new 1 8 2 64; put 0 0 a; lease -1 5; put 0 0 b; tick 5; lease -1 5; lease -1 5", "ok; ok 1; ok 1 1 0 1 a; ok 2; ok 1; ok 2 2 0 1 b; ok 1 3 0 2 a")
	dead := "new 1 8 2 64; put 0 0 a; lease -1 5; nack 1 0; lease -1 5; nack 2 0; dead; next c 9; next c 9"
	told := "ok; ok 1; ok 1 1 0 1 a; ok; ok 1 2 0 2 a; ok; ok 1; ok 1; ok"
	tells(t, 1000, dead, told)
	tells(t, 1000, dead+"; requeue 1; lease -1 5; nack 3 0; lease -1 5; nack 4 0; next c 9", told+"; ok; ok 1 3 0 1 a; ok; ok 1 4 0 2 a; ok; ok 1")
	for _, c := range [][2]string{{"0", "ok 1 1 0 1 a; error 11"}, {"0 99 99", "ok 1 1 0 1 a; ok 2 2 0 1 b"}} {
		tells(t, 1000, "new 1 8 2 64; put 0 0 a; sync; put 0 0 b; crash "+c[0]+"; open; lease -1 5; lease -1 5", "ok; ok 1; ok; ok 2; ok; ok; "+c[1])
	}
	tells(t, 1000, "new 1 8 2 64; put 0 0 a; lease -1 5; ack 1; sync; crash 0; open; lease -1 5", "ok; ok 1; ok 1 1 0 1 a; ok; ok; ok; ok; error 11")
	tells(t, 1000, "new 1 8 2 64; put 0 0 a; pack; lease -1 5; ack 1; sync; fuse 7; pack; crash 5; open; stats", "ok; ok 1; ok; ok 1 1 0 1 a; ok; ok; ok; error 7; ok; ok; ok 0 2 0 0 0 0")
}

func TestAFullDiskIsLeasedAsEver(t *testing.T) {
	lines := []string{"new 1 8 9 64"}
	for range 12 {
		lines = append(lines, "put 0 0 12345678")
	}
	lines = append(lines, "peek 0", "lease 0 5")
	s, err := script.Run(300, strings.Join(lines, "\n"))
	told := strings.Split(strings.TrimSuffix(s, "\n"), "\n")
	full := slices.Index(told, "error 4")
	if err != api.OK || len(told) != len(lines) || full < 2 || told[13] != "ok 1 0 0 0 12345678" || told[14] != "ok 1 1 0 1 12345678" && told[14] != "error 4" {
		t.Errorf("a full disk: %q", told)
	}
	for i := full; i < 13; i++ {
		if told[i] != "error 4" {
			t.Errorf("line %d: %s", i, told[i])
		}
	}
}

// some is a line, mostly a command.
func some(r *rand.Rand) string {
	n := func(most int) string { return strconv.Itoa(r.IntN(most)) }
	switch r.IntN(24) {
	case 0, 1, 2, 3, 4:
		return "put " + n(2) + " " + n(3) + " p" + n(100)
	case 5, 6, 7, 8:
		return "lease " + strconv.Itoa(r.IntN(3)-1) + " " + n(6)
	case 9, 10:
		return "ack " + n(20)
	case 11:
		return "nack " + n(20) + " " + n(3)
	case 12:
		return "extend " + n(20) + " " + n(5)
	case 13, 14:
		return "tick " + n(4)
	case 15:
		return "next c" + n(3) + " " + n(4)
	case 16:
		return "requeue " + n(20)
	case 17:
		return "purge " + n(20)
	case 18:
		return "stats"
	case 19:
		return "peek " + strconv.Itoa(r.IntN(3)-1)
	case 20:
		return "dead"
	case 21:
		return "drain -1 3 " + n(3)
	case 22:
		return "nonsense " + n(9)
	default:
		return "put " + n(2) + " 0"
	}
}

func run(t *testing.T, room int, lines []string) []string {
	t.Helper()
	s, err := script.Run(room, strings.Join(lines, "\n"))
	if err != api.OK {
		t.Fatalf("Run: %d", err)
	}
	return strings.Split(strings.TrimSuffix(s, "\n"), "\n")
}

func manyLines(r *rand.Rand, n int) []string {
	lines := []string{"new 2 8 2 64"}
	for range n {
		lines = append(lines, some(r))
	}
	return lines
}

// Lines behind change nothing ahead; spaces, and lines without words, change nothing; each line with words has one answer.
func TestWhatFollows(t *testing.T) {
	for seed := range 60 {
		r := rand.New(rand.NewPCG(24, uint64(seed)))
		lines := manyLines(r, 80)
		for i := range lines {
			if i > 0 && r.IntN(15) == 0 {
				lines[i] = []string{"sync", "pack", "open", "crash 2 30 9", "fuse 3", "crash 9 99 99 99 99", "new 1 1 1 64"}[r.IntN(7)]
			}
		}
		whole := run(t, 3000, lines)
		if len(whole) != len(lines) {
			t.Fatalf("seed %d: %d answers of %d lines", seed, len(whole), len(lines))
		}
		for _, n := range []int{1, 10, 40, 79} {
			if got := run(t, 3000, lines[:n]); !slices.Equal(got, whole[:n]) {
				t.Fatalf("seed %d: the first %d lines: %q, want %q", seed, n, got, whole[:n])
			}
		}
		var spaced []string
		for _, line := range lines {
			if r.IntN(4) == 0 {
				spaced = append(spaced, []string{"", " ", "   "}[r.IntN(3)])
			}
			spaced = append(spaced, strings.Repeat(" ", r.IntN(3))+strings.ReplaceAll(line, " ", strings.Repeat(" ", 1+r.IntN(3)))+strings.Repeat(" ", r.IntN(3)))
		}
		if got := run(t, 3000, append(spaced, "", " ")); !slices.Equal(got, whole) {
			t.Fatalf("seed %d: with spaces: %q, want %q", seed, got, whole)
		}
		if got := run(t, 3000, lines); !slices.Equal(got, whole) {
			t.Fatalf("seed %d: once more: %q, want %q", seed, got, whole)
		}
	}
}
