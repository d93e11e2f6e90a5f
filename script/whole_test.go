package script_test

import (
	"math/rand/v2"
	"slices"
	"strconv"
	"strings"
	"testing"
)

// look tells all that a script can see of a queue without changing it.
var look = []string{"stats", "dead", "peek -1", "peek 0", "peek 1"}

// emptied drains a queue behind all delays and leases, so that all that it had is told.
var emptied = []string{"stats", "dead", "tick 100", "drain -1 100 999", "stats", "dead", "next zz 99"}

// To be synced, or packed, changes no answer.
func TestSyncAndPackChangeNoAnswer(t *testing.T) {
	for seed := range 60 {
		r := rand.New(rand.NewPCG(25, uint64(seed)))
		lines := manyLines(r, 100)
		want := run(t, 1048576, lines)
		var more []string
		extra := map[int]int{} // which answers are those of the lines that were put between
		for i, line := range lines {
			more = append(more, line)
			if i > 0 && r.IntN(5) == 0 {
				extra[len(more)] = 1
				more = append(more, []string{"sync", "pack"}[r.IntN(2)])
			}
		}
		var got []string
		for i, answer := range run(t, 1048576, more) {
			if extra[i] == 0 {
				got = append(got, answer)
			} else if answer != "ok" {
				t.Fatalf("seed %d: %s: %s", seed, more[i], answer)
			}
		}
		if !slices.Equal(got, want) {
			t.Fatalf("seed %d: %q, want %q", seed, got, want)
		}
	}
}

// More room changes nothing, where there was enough; with less, each answer is the same or that there is no room.
func TestRoom(t *testing.T) {
	for seed := range 40 {
		r := rand.New(rand.NewPCG(26, uint64(seed)))
		lines := manyLines(r, 60)
		want := run(t, 1048576, lines)
		for _, room := range []int{150, 400, 800, 2000, 100000} {
			got := run(t, room, lines)
			if full := slices.Index(got, "error 4"); full < 0 && !slices.Equal(got, want) || full >= 0 && !slices.Equal(got[:full], want[:full]) {
				t.Fatalf("seed %d, room %d: %q, want %q", seed, room, got, want)
			}
		}
	}
}

// What isn't written down isn't done: behind no room, and behind no power, all is as it was.
func TestNothingIsDoneWithoutRoomOrPower(t *testing.T) {
	for seed := range 40 {
		r := rand.New(rand.NewPCG(27, uint64(seed)))
		lines := manyLines(r, 30)
		for _, fuse := range []int{0, 1} {
			for _, last := range []string{"put 0 0 x", "lease -1 5", "ack 1", "tick 1", "next q 5", "drain -1 5 9"} {
				ahead := slices.Concat(lines, look)
				behind := slices.Concat(lines, []string{"fuse " + strconv.Itoa(fuse), last}, []string{"stats", "dead"})
				a, b := run(t, 100000, ahead), run(t, 100000, behind)
				n := len(lines)
				if b[n+1] == "error 7" && last != "drain -1 5 9" && !slices.Equal(a[n:n+2], b[n+2:n+4]) {
					t.Fatalf("seed %d: %s behind %q has no power, and %q becomes %q", seed, last, lines, a[n:n+2], b[n+2:])
				}
			}
		}
	}
}

// Whatever crashes, and wherever: the queue is opened as it was behind a beginning of what was done, and all that was done ahead of the last Sync is in it.
func TestCrashesKeepABeginning(t *testing.T) {
	for seed := range 60 {
		r := rand.New(rand.NewPCG(28, uint64(seed)))
		lines := manyLines(r, 25)
		for i, line := range lines {
			if strings.HasPrefix(line, "drain") {
				lines[i] = "lease -1 3" // a crash may come between the leases of one drain
			}
		}
		sure := 1 + r.IntN(10)
		lines = slices.Insert(lines, sure, []string{"sync", "pack"}[r.IntN(2)])
		// What it is behind each beginning, with all leases ended.
		var may []string
		for n := sure + 1; n <= len(lines); n++ {
			all := run(t, 100000, slices.Concat(lines[:n], []string{"open"}, emptied))
			may = append(may, strings.Join(all[n:], "; "))
		}
		crash := "crash " + strconv.Itoa(r.IntN(8)-1)
		for range r.IntN(9) {
			crash += " " + strconv.Itoa(r.IntN(200)-20)
		}
		for fuse := range 12 {
			// The power goes among the lines behind the sure ones, or while it is packed or opened there.
			var script []string
			switch fuse % 3 {
			case 0:
				script = slices.Concat(lines[:sure+1], []string{"fuse " + strconv.Itoa(3*fuse)}, lines[sure+1:], []string{crash, "open"}, emptied)
			case 1:
				script = slices.Concat(lines, []string{"fuse " + strconv.Itoa(fuse), "pack", crash, "open"}, emptied)
			case 2:
				script = slices.Concat(lines, []string{crash, "fuse " + strconv.Itoa(fuse/3), "open", crash, "open"}, emptied)
			}
			all := run(t, 100000, script)
			got := strings.Join(all[len(all)-len(emptied)-1:], "; ")
			if !slices.Contains(may, got) {
				t.Fatalf("seed %d, fuse %d: %q\n is opened as %s,\n which it never was: %q", seed, fuse, script, got, may)
			}
		}
	}
}

// Who was settled ahead of a Sync never comes again.
func TestWhoIsSettledNeverComesAgain(t *testing.T) {
	for open := -1; open < 6; open++ {
		for tail := 0; tail < 200; tail += 13 {
			crash := "crash " + strconv.Itoa(open) + strings.Repeat(" "+strconv.Itoa(tail), 6)
			told := run(t, 100000, []string{"new 1 8 5 64", "put 0 0 a", "put 0 0 b", "lease 0 9", "ack 1", "sync", "lease 0 9", "put 0 0 c", "pack", "lease 0 9", crash, "open", "drain -1 9 99", crash, "open", "drain -1 9 99"})
			for _, answer := range told[12:] {
				for i, word := range strings.Split(answer, " ") {
					if word == "a" || i%5 == 1 && word == "1" {
						t.Fatalf("%s: %q", crash, told)
					}
				}
			}
		}
	}
}

// A message that is neither settled nor dead is leased within as many leases as there are messages, once its delay and all leases are over.
func TestEachComes(t *testing.T) {
	for seed := range 60 {
		r := rand.New(rand.NewPCG(29, uint64(seed)))
		lines := slices.Concat(manyLines(r, 60), []string{"tick 100", "stats"})
		told := run(t, 100000, lines)
		stats := strings.Split(told[len(told)-1], " ")
		zero, _ := strconv.Atoi(stats[3])
		one, _ := strconv.Atoi(stats[4])
		left := zero + one
		for range left {
			lines = append(lines, "lease -1 5")
		}
		lines = append(lines, "lease -1 5")
		told = run(t, 100000, lines)
		for i, answer := range told[len(told)-left-1:] {
			if strings.HasPrefix(answer, "ok ") != (i < left) {
				t.Fatalf("seed %d: lease %d of %d: %s", seed, i+1, left, answer)
			}
		}
	}
}
