package store_test

import (
	"maps"
	"slices"
	"testing"

	"tumbrel/api"
	"tumbrel/dead"
	"tumbrel/disk"
	"tumbrel/frame"
	"tumbrel/index"
	"tumbrel/life"
	"tumbrel/op"
	"tumbrel/record"
	"tumbrel/snap"
	"tumbrel/store"
)

// laid is a disk with these files, all sure.
func laid(t *testing.T, m map[string]string) *disk.Disk {
	t.Helper()
	d := made(t, 10000)
	for _, name := range slices.Sorted(maps.Keys(m)) {
		fine(t, d.Create(name), d.Append(name, []byte(m[name])), d.Sync(name))
	}
	fine(t, d.DirSync())
	return d
}

// putAt is a Put as it stands among the events.
func putAt(lane int, seg, at uint64, size int) op.Op {
	return op.Op{Do: record.Put, Lane: lane, Where: index.Where{Seg: seg, At: at, Size: size}}
}

// whole is what stands on the disk of a queue of the third generation: message 1 and 2 in the snapshot, 3 put behind it.
func whole(t *testing.T) map[string]string {
	t.Helper()
	return map[string]string{
		"root": rootOf(t, 3),
		"s.3": snapOf(t, snap.Snap{Seg: 7, At: 13, State: index.State{Now: 5, Next: 3, Leases: 4, Turns: 6, Items: []index.Item{
			{Id: 1, Life: life.Life{Status: life.Ready, Count: 1}, Turn: 6, Where: index.Where{Seg: 4, At: 0, Size: 3}},
			{Id: 2, Lane: 1, Life: life.Life{Status: life.Leased, Count: 1, Due: 9, Token: 4}, Where: index.Where{Seg: 7, At: 0, Size: 1}},
		}}}),
		"e.3": actsOf(t, op.Op{Do: record.Opened}, putAt(0, 7, 13, 2), tick(1)),
		"m.4": messageOf(t, 1, "one"),
		"m.7": messageOf(t, 2, "2") + messageOf(t, 3, "33"),
	}
}

func TestOpen(t *testing.T) {
	d := laid(t, whole(t))
	s := opened(t, d)
	want := index.State{Now: 6, Next: 4, Leases: 4, Turns: 8, Items: []index.Item{
		{Id: 1, Life: life.Life{Status: life.Ready, Count: 1}, Turn: 6, Where: index.Where{Seg: 4, At: 0, Size: 3}},
		{Id: 2, Lane: 1, Life: life.Life{Status: life.Ready, Count: 1}, Turn: 7, Where: index.Where{Seg: 7, At: 0, Size: 1}},
		{Id: 3, Life: life.Life{Status: life.Ready}, Turn: 8, Where: index.Where{Seg: 7, At: 13, Size: 2}},
	}}
	if got := s.State(); !sameState(got, want) {
		t.Errorf("State = %v, want %v", got, want)
	}
	if got := files(t, d); !maps.Equal(got, whole(t)) {
		t.Errorf("Open changed files: %q", got)
	}
	done(t, s, put(1, 0), "4444")
	if b, _ := d.Read("m.7"); string(b) != whole(t)["m.7"]+messageOf(t, 4, "4444") {
		t.Errorf("the log goes on: %x", b)
	}
	costs(t, 4, func() (*disk.Disk, func() api.Errno) { // two segments, the events, the directory
		d := laid(t, whole(t))
		return d, func() api.Errno { _, err := store.Open(d); return err }
	})
}

// changed is the files of whole, of which some are changed: "-" takes one away.
func changed(t *testing.T, change map[string]string) map[string]string {
	t.Helper()
	m := whole(t)
	for name, b := range change {
		if b == "-" {
			delete(m, name)
		} else {
			m[name] = b
		}
	}
	return m
}

func turned(b string, at int) string {
	c := []byte(b)
	c[at] ^= 0x10
	return string(c)
}

func TestOpensErrors(t *testing.T) {
	w := whole(t)
	noKind, _ := frame.Bytes(frame.Frame{Kind: 50})
	badState := func(change func(*index.State)) string {
		s := index.State{Now: 5, Next: 3, Leases: 4, Turns: 6, Items: []index.Item{{Id: 1, Life: life.Life{Status: life.Ready}, Turn: 6}}}
		change(&s)
		return snapOf(t, snap.Snap{Seg: 7, State: s})
	}
	for i, c := range []struct {
		change map[string]string
		want   api.Errno
	}{
		{map[string]string{"root": "-"}, api.ErrName},
		{map[string]string{"root": w["root"][:9]}, api.ErrShort},
		{map[string]string{"root": turned(w["root"], 3)}, api.ErrSum},
		{map[string]string{"root": ""}, api.ErrForm},
		{map[string]string{"s.3": "-"}, api.ErrName},
		{map[string]string{"s.3": turned(w["s.3"], 8)}, api.ErrSum},
		{map[string]string{"s.3": w["s.3"][:len(w["s.3"])-1]}, api.ErrShort},
		{map[string]string{"s.3": w["s.3"][:len(w["s.3"])-12]}, api.ErrForm},
		{map[string]string{"s.3": ""}, api.ErrForm},
		{map[string]string{"s.3": w["s.3"] + string(noKind)}, api.ErrForm},
		{map[string]string{"s.3": badState(func(s *index.State) { s.Next = 1 })}, api.ErrForm},
		{map[string]string{"s.3": badState(func(s *index.State) { s.Items[0].Lane = 2 })}, api.ErrForm},
		{map[string]string{"s.3": badState(func(s *index.State) { s.Items[0].Where.Size = 9 })}, api.ErrForm},
		{map[string]string{"s.3": badState(func(s *index.State) { s.Dead = []dead.Row{{Id: 1, Place: 1}}; s.Deaths = 1 })}, api.ErrForm},
		{map[string]string{"e.3": "-"}, api.ErrName},
		{map[string]string{"e.3": turned(w["e.3"], 2)}, api.ErrSum},
		{map[string]string{"e.3": w["e.3"] + messageOf(t, 1, "")}, api.ErrForm},
		{map[string]string{"e.3": actsOf(t, ack(1))}, api.ErrForm},
		{map[string]string{"e.3": actsOf(t, tick(1), lease(1, 0))}, api.ErrForm},
		{map[string]string{"e.3": actsOf(t, op.Op{Do: record.Opened}, ack(4))}, api.ErrForm},
		{map[string]string{"e.3": actsOf(t, putAt(2, 7, 13, 2))}, api.ErrForm},
		{map[string]string{"e.3": actsOf(t, putAt(0, 7, 13, 1))}, api.ErrForm},
		{map[string]string{"e.3": actsOf(t, putAt(0, 7, 13, 3))}, api.ErrForm},
		{map[string]string{"e.3": actsOf(t, putAt(0, 7, 0, 1))}, api.ErrForm},
		{map[string]string{"e.3": actsOf(t, putAt(0, 7, 13, 2), putAt(0, 7, 13, 2))}, api.ErrForm},
		{map[string]string{"e.3": actsOf(t, putAt(0, 10000000000, 0, 2))}, api.ErrArg},
		{map[string]string{"e.3": actsOf(t, putAt(0, 7, 12, 2))}, api.ErrSum},
		{map[string]string{"m.7": w["m.7"][:13] + messageOf(t, 4, "33")}, api.ErrForm},
		{map[string]string{"m.7": w["m.7"][:13] + actsOf(t, tick(3))}, api.ErrForm},
		{map[string]string{"m.7": turned(w["m.7"], 25)}, api.ErrSum},
		{map[string]string{"m.7": "-", "e.3": ""}, api.ErrName},
		{map[string]string{"m.7": w["m.7"][:12], "e.3": ""}, api.ErrShort},
		{map[string]string{"m.7": w["m.7"][:12]}, api.ErrShort},
		{map[string]string{"m.7": "-"}, api.ErrName},
		{map[string]string{"m.7": "-", "e.3": actsOf(t, ack(1))}, api.ErrForm},
	} {
		d := laid(t, changed(t, c.change))
		if s, err := store.Open(d); s != nil || err != c.want {
			t.Errorf("case %d: Open: %d, want %d", i, err, c.want)
		}
	}
	d := laid(t, w)
	d.Fuse(0)
	d.DirSync()
	if s, err := store.Open(d); s != nil || err != api.ErrDown {
		t.Errorf("Open without power: %d", err)
	}
}

func TestOpenStopsAtTheFirstMessageThatIsGone(t *testing.T) {
	opened1 := op.Op{Do: record.Opened}
	head := actsOf(t, opened1, tick(2))
	for i, c := range []struct {
		change map[string]string
		events string // what is left of them
		m7     int    // how many bytes are left of the segment 7
		next   uint64
	}{
		{map[string]string{"e.3": head + actsOf(t, putAt(0, 7, 13, 2), tick(1))}, head + actsOf(t, putAt(0, 7, 13, 2), tick(1)), 27, 4},
		{map[string]string{"m.7": whole(t)["m.7"][:26], "e.3": head + actsOf(t, putAt(0, 7, 13, 2), tick(1))}, head, 13, 3},
		{map[string]string{"m.7": whole(t)["m.7"][:13], "e.3": head + actsOf(t, putAt(0, 7, 13, 2), ack(77))}, head, 13, 3},
		{map[string]string{"e.3": head + actsOf(t, putAt(0, 8, 0, 2), tick(1))}, head, 13, 3},
		{map[string]string{"e.3": head + actsOf(t, putAt(0, 7, 13, 2), putAt(0, 7, 27, 0), tick(9))}, head + actsOf(t, putAt(0, 7, 13, 2)), 27, 4},
		{map[string]string{"e.3": head + actsOf(t, putAt(0, 7, 13, 2), putAt(0, 8, 5, 0), tick(9)), "m.8": "x"}, head + actsOf(t, putAt(0, 7, 13, 2)), 27, 4},
		{map[string]string{"e.3": actsOf(t, putAt(0, 9, 0, 2))}, "", 13, 3},
		{map[string]string{"e.3": head + actsOf(t, tick(3))[:11]}, head, 13, 3},
		{map[string]string{"e.3": ""}, "", 13, 3},
		{map[string]string{"m.7": whole(t)["m.7"] + "left over"}, whole(t)["e.3"], 27, 4},
	} {
		d := laid(t, changed(t, c.change))
		s := opened(t, d)
		e, _ := d.Read("e.3")
		m, _ := d.Read("m.7")
		if string(e) != c.events || len(m) != c.m7 || s.Stats().Next != c.next || s.Stats().Leased != 0 || names(d) != "e.3 m.4 m.7 root s.3" {
			t.Errorf("case %d: %x, %d bytes, %v, %s", i, e, len(m), s.Stats(), names(d))
		}
		d.Crash(0, nil)
		again := opened(t, d)
		if !sameState(again.State(), s.State()) {
			t.Errorf("case %d: what Open leaves isn't sure", i)
		}
	}
}

func TestOpenDeletesWhatIsLeftOver(t *testing.T) {
	extra := map[string]string{"root.new": "x", "s.2": "", "e.2": "y", "s.4": "", "e.4": "", "m.3": "z", "m.5": "", "m.8": "w", "a": "", "m.04": "", "e.33": "", "s.33": "", "root.3": "", "m.7.": ""}
	d := laid(t, changed(t, extra))
	opened(t, d)
	if names(d) != "e.3 m.4 m.7 root s.3" {
		t.Errorf("Open leaves %s", names(d))
	}
	d.Crash(0, nil)
	if names(d) != "e.3 m.4 m.7 root s.3" {
		t.Errorf("a crash brings back %s", names(d))
	}
	costs(t, 6, func() (*disk.Disk, func() api.Errno) {
		d := laid(t, changed(t, map[string]string{"m.3": "z", "root.new": "x"}))
		return d, func() api.Errno { _, err := store.Open(d); return err }
	})
}

func TestOpenDeletesByNames(t *testing.T) {
	d := laid(t, changed(t, map[string]string{"m.10": "", "m.9": "", "a": "", "x": ""}))
	d.Fuse(3)
	if _, err := store.Open(d); err != api.ErrDown || names(d) != "e.3 m.4 m.7 root s.3 x" {
		t.Errorf("Open with a fuse of 3: %d, %s", err, names(d))
	}
	d = laid(t, changed(t, map[string]string{"m.10": "", "m.9": ""}))
	d.Fuse(1)
	if _, err := store.Open(d); err != api.ErrDown || names(d) != "e.3 m.4 m.7 m.9 root s.3" {
		t.Errorf("Open with a fuse of 1: %d, %s", err, names(d))
	}
}

// The segments of Puts that were done, and those of the snapshot, are needed when the queue is opened once more, though no message is left in them.
func TestOpenKeepsWhatTheEventsNeed(t *testing.T) {
	settle := []op.Op{lease(0, 5), ack(5), lease(0, 5), ack(6), lease(1, 5), ack(7)} // all that are there: 1, 3 and 2
	acts := append([]op.Op{{Do: record.Opened}, putAt(0, 8, 0, 2)}, settle...)
	m := changed(t, map[string]string{"e.3": actsOf(t, append(acts, putAt(1, 9, 0, 1))...), "m.8": messageOf(t, 3, "33"), "m.9": messageOf(t, 4, "4"), "m.6": messageOf(t, 9, "")})
	d := laid(t, m)
	for range 3 {
		s := opened(t, d)
		if names(d) != "e.3 m.4 m.7 m.8 m.9 root s.3" || s.Stats().Next != 5 || len(s.State().Items) != 1 {
			t.Fatalf("opened: %s, %v", names(d), s.Stats())
		}
		d.Crash(0, nil)
	}
	s := opened(t, d)
	fine(t, s.Pack())
	if names(d) != "e.4 m.9 root s.4" {
		t.Errorf("packed: %s", names(d))
	}
	// The log's end by the snapshot may stand in a segment in which nobody is.
	d = laid(t, map[string]string{"root": rootOf(t, 1), "s.1": snapOf(t, snap.Snap{Seg: 5, At: 2, State: index.State{Next: 1}}), "m.5": "xyz", "m.6": messageOf(t, 1, "a"), "e.1": actsOf(t, putAt(0, 6, 0, 1))})
	opened(t, d)
	if b, _ := d.Read("m.5"); names(d) != "e.1 m.5 m.6 root s.1" || string(b) != "xyz" {
		t.Errorf("opened: %s, m.5 has %q", names(d), b)
	}
}

func TestOpenMakesAllSure(t *testing.T) {
	d, s := begun(t, 10000, set)
	for range 6 {
		done(t, s, put(0, 0), "a")
	}
	done(t, s, lease(0, 5), "")
	s = opened(t, d)
	want := s.State()
	d.Crash(0, nil)
	if got := opened(t, d).State(); !sameState(got, want) {
		t.Errorf("what was opened isn't sure: %v, want %v", got, want)
	}
	if len(want.Items) != 6 || want.Items[0].Life.Status != life.Ready || want.Items[0].Life.Count != 1 {
		t.Errorf("opened: %v", want.Items)
	}
}

func TestOpenSyncsByNumbers(t *testing.T) {
	unsure := func() *disk.Disk {
		m := whole(t)
		d := made(t, 10000)
		for _, name := range []string{"root", "s.3", "e.3", "m.4", "m.7", "m.10"} {
			fine(t, d.Create(name))
			if name != "m.10" && name != "e.3" {
				fine(t, d.Append(name, []byte(m[name])))
			}
		}
		fine(t, d.Append("m.10", []byte(messageOf(t, 3, "33"))), d.Append("e.3", []byte(actsOf(t, putAt(0, 10, 0, 2)))), d.Sync("root"), d.Sync("s.3"), d.DirSync())
		return d
	}
	for n, want := range []string{"", "m.4", "m.4 m.7", "m.10 m.4 m.7", "e.3 m.10 m.4 m.7"} {
		d := unsure()
		d.Fuse(n)
		if _, err := store.Open(d); err != api.ErrDown {
			t.Fatalf("Open with a fuse of %d: %d", n, err)
		}
		d.Crash(0, nil)
		got := ""
		for _, name := range d.Names() {
			if b, _ := d.Read(name); len(b) > 0 && name != "root" && name != "s.3" {
				if got != "" {
					got += " "
				}
				got += name
			}
		}
		if got != want {
			t.Errorf("sure behind a fuse of %d: %q, want %q", n, got, want)
		}
	}
}
