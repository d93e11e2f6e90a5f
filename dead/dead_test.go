package dead_test

import (
	"math"
	"math/rand/v2"
	"slices"
	"strconv"
	"testing"

	"tumbrel/api"
	"tumbrel/dead"
)

func told(t *testing.T, d *dead.Dead, name string, n int, want ...uint64) {
	t.Helper()
	if ids, err := d.Next(name, n); !slices.Equal(ids, want) || err != api.OK {
		t.Errorf("Next(%q, %d) = %v, %d, want %v", name, n, ids, err, want)
	}
}

func refused(t *testing.T, d *dead.Dead, name string, n int, want api.Errno) {
	t.Helper()
	before := d.Cursors()
	if ids, err := d.Next(name, n); len(ids) != 0 || err != want {
		t.Errorf("Next(%q, %d) = %v, %d, want %d", name, n, ids, err, want)
	}
	if !slices.Equal(d.Cursors(), before) {
		t.Errorf("Next(%q, %d) changed who is known: %v", name, n, d.Cursors())
	}
}

func TestAnEmptyList(t *testing.T) {
	d := dead.New()
	if d.Last() != 0 || len(d.All()) != 0 || len(d.Cursors()) != 0 || d.Has(0) || d.Drop(0) {
		t.Error("New isn't empty")
	}
}

func TestAddAndDrop(t *testing.T) {
	d := dead.New()
	for _, id := range []uint64{5, 3, 0, math.MaxUint64} {
		if d.Has(id) || !d.Add(id) || d.Add(id) || !d.Has(id) {
			t.Errorf("Add(%d)", id)
		}
	}
	if !d.Drop(3) || d.Drop(3) || d.Drop(4) || d.Has(3) || d.Last() != 4 {
		t.Errorf("Drop: Last = %d", d.Last())
	}
	if want := []dead.Row{{Id: 5, Place: 1}, {Id: 0, Place: 3}, {Id: math.MaxUint64, Place: 4}}; !slices.Equal(d.All(), want) {
		t.Errorf("All = %v, want %v", d.All(), want)
	}
	d.Drop(math.MaxUint64)
	if !d.Add(3) || d.Last() != 5 {
		t.Errorf("Add again: Last = %d", d.Last())
	}
	if want := []dead.Row{{Id: 5, Place: 1}, {Id: 0, Place: 3}, {Id: 3, Place: 5}}; !slices.Equal(d.All(), want) {
		t.Errorf("All = %v, want %v", d.All(), want)
	}
}

func TestNext(t *testing.T) {
	d := dead.New()
	for _, id := range []uint64{5, 3, 9} {
		d.Add(id)
	}
	told(t, d, "a", 2, 5, 3)
	told(t, d, "a", 2, 9)
	told(t, d, "a", 2)
	told(t, d, "b", math.MaxInt, 5, 3, 9)
	d.Drop(3)
	told(t, d, "c", 1, 5)
	d.Add(3)
	told(t, d, "a", 1, 3) // dead again, told again
	told(t, d, "c", 9, 9, 3)
	d.Add(1)
	d.Drop(1)
	told(t, d, "c", 9)
	if want := []dead.Cursor{{Name: "a", Place: 4}, {Name: "b", Place: 3}, {Name: "c", Place: 4}}; !slices.Equal(d.Cursors(), want) {
		t.Errorf("Cursors = %v, want %v", d.Cursors(), want)
	}
}

func TestWhoIsToldNothingIsKnown(t *testing.T) {
	d := dead.New()
	told(t, d, "x", 5)
	d.Add(1)
	d.Drop(1)
	told(t, d, "y", 5)
	if want := []dead.Cursor{{Name: "x"}, {Name: "y"}}; !slices.Equal(d.Cursors(), want) {
		t.Errorf("Cursors = %v", d.Cursors())
	}
}

func TestNamesAreFolded(t *testing.T) {
	d := dead.New()
	d.Add(1)
	d.Add(2)
	told(t, d, "ΟΔΟΣ", 1, 1)
	told(t, d, "οδος", 1, 2)
	told(t, d, "Ab9", 1, 1)
	told(t, d, "aB9", 9, 2)
	if want := []dead.Cursor{{Name: "ab9", Place: 2}, {Name: "οδοσ", Place: 2}}; !slices.Equal(d.Cursors(), want) {
		t.Errorf("Cursors = %v", d.Cursors())
	}
}

func TestNextsErrors(t *testing.T) {
	d := dead.New()
	d.Add(1)
	for _, name := range []string{"", "abcdefghi", "a b", "a.", "\xff", "é", "Abcdefghi"} {
		refused(t, d, name, 1, api.ErrArg)
	}
	for _, n := range []int{0, -1, math.MinInt} {
		refused(t, d, "a", n, api.ErrArg)
	}
	for i := range 8 {
		told(t, d, "n"+strconv.Itoa(i), 1, 1)
	}
	refused(t, d, "m", 1, api.ErrFull)
	refused(t, d, "m", 0, api.ErrArg)
	refused(t, d, "m!", 1, api.ErrArg)
	told(t, d, "N7", 1)
	d.Add(2)
	told(t, d, "n7", 1, 2)
}

func TestCursorsRise(t *testing.T) {
	d := dead.New()
	for _, name := range []string{"z", "α", "aa", "0", "a", "ab", "ω", "9"} {
		told(t, d, name, 1)
	}
	var names []string
	for _, c := range d.Cursors() {
		names = append(names, c.Name)
	}
	if want := []string{"0", "9", "a", "aa", "ab", "z", "α", "ω"}; !slices.Equal(names, want) {
		t.Errorf("Cursors = %v", names)
	}
}

func TestFromTakesWhatMayBe(t *testing.T) {
	rows := []dead.Row{{Id: 7, Place: 1}, {Id: 0, Place: 4}, {Id: 3, Place: 9}}
	cursors := []dead.Cursor{{Name: "a", Place: 0}, {Name: "b", Place: 4}, {Name: "ω", Place: 9}}
	d, err := dead.From(9, rows, cursors)
	if err != api.OK || d.Last() != 9 || !slices.Equal(d.All(), rows) || !slices.Equal(d.Cursors(), cursors) {
		t.Fatalf("From: %d", err)
	}
	rows[0].Id, cursors[0].Place = 8, 3
	if !d.Has(7) || d.Has(8) || d.Cursors()[0].Place != 0 {
		t.Error("From keeps its arguments")
	}
	told(t, d, "b", 9, 3)
	told(t, d, "a", 2, 7, 0)
	if !d.Add(8) || d.Last() != 10 {
		t.Error("Add behind From")
	}
	if e, err := dead.From(math.MaxUint64, nil, nil); err != api.OK || e.Last() != math.MaxUint64 || len(e.All()) != 0 {
		t.Errorf("From of an empty list: %d", err)
	}
	if e, err := dead.From(0, nil, []dead.Cursor{{Name: "q"}}); err != api.OK || len(e.Cursors()) != 1 {
		t.Errorf("From of a consumer alone: %d", err)
	}
}

func TestFromRefusesWhatMayNotBe(t *testing.T) {
	row := func(l ...uint64) []dead.Row {
		var rows []dead.Row
		for i := 0; i < len(l); i += 2 {
			rows = append(rows, dead.Row{Id: l[i], Place: l[i+1]})
		}
		return rows
	}
	nine := make([]dead.Cursor, 9)
	for i := range nine {
		nine[i].Name = "n" + strconv.Itoa(i)
	}
	if _, err := dead.From(5, row(1, 5), nine[:8]); err != api.OK {
		t.Errorf("eight consumers: %d", err)
	}
	for i, c := range []struct {
		rows    []dead.Row
		cursors []dead.Cursor
	}{
		{row(1, 0), nil}, {row(1, 6), nil}, {row(1, 2, 2, 2), nil}, {row(1, 3, 2, 2), nil}, {row(1, 2, 1, 3), nil}, {row(1, 1, 2, 2, 1, 5), nil}, {row(1, 2, 2, 6), nil},
		{nil, nine}, {nil, []dead.Cursor{{Name: ""}}}, {nil, []dead.Cursor{{Name: "a b"}}}, {nil, []dead.Cursor{{Name: "A"}}}, {nil, []dead.Cursor{{Name: "ς"}}},
		{nil, []dead.Cursor{{Name: "abcdefghi"}}}, {nil, []dead.Cursor{{Name: "b"}, {Name: "a"}}}, {nil, []dead.Cursor{{Name: "a"}, {Name: "a"}}},
		{nil, []dead.Cursor{{Name: "a"}, {Name: "c"}, {Name: "b"}}}, {nil, []dead.Cursor{{Name: "a", Place: 6}}}, {nil, []dead.Cursor{{Name: "a"}, {Name: "b", Place: 6}}},
	} {
		if d, err := dead.From(5, c.rows, c.cursors); d != nil || err != api.ErrArg {
			t.Errorf("case %d: From(5, %v, %v): %d", i, c.rows, c.cursors, err)
		}
	}
}

func TestEachIsToldEachOnce(t *testing.T) {
	for seed := range 60 {
		r := rand.New(rand.NewPCG(10, uint64(seed)))
		d := dead.New()
		var rows []dead.Row
		last := uint64(0)
		at := map[string]uint64{}
		for range 200 {
			id := r.Uint64N(15)
			i := slices.IndexFunc(rows, func(x dead.Row) bool { return x.Id == id })
			switch r.IntN(4) {
			case 0, 1:
				if d.Add(id) != (i < 0) {
					t.Fatalf("Add(%d) to %v", id, rows)
				}
				if i < 0 {
					last++
					rows = append(rows, dead.Row{Id: id, Place: last})
				}
			case 2:
				if d.Drop(id) != (i >= 0) {
					t.Fatalf("Drop(%d) of %v", id, rows)
				}
				if i >= 0 {
					rows = slices.Delete(rows, i, i+1)
				}
			case 3:
				name, n := string(rune('a'+r.IntN(3))), 1+r.IntN(4)
				var want []uint64
				for _, x := range rows {
					if x.Place > at[name] && len(want) < n {
						want = append(want, x.Id)
						at[name] = x.Place
					}
				}
				told(t, d, name, n, want...)
				if _, known := at[name]; !known {
					at[name] = 0
				}
			}
			if r.IntN(10) == 0 {
				e, err := dead.From(d.Last(), d.All(), d.Cursors())
				if err != api.OK {
					t.Fatalf("From of what is told: %d", err)
				}
				d = e
			}
			if !slices.Equal(d.All(), rows) || d.Last() != last || len(d.Cursors()) != len(at) {
				t.Fatalf("All = %v, Last = %d, want %v, %d", d.All(), d.Last(), rows, last)
			}
			for _, c := range d.Cursors() {
				if at[c.Name] != c.Place {
					t.Fatalf("%q is at %d, want %d", c.Name, c.Place, at[c.Name])
				}
			}
		}
	}
}

func TestNothingIsShared(t *testing.T) {
	d, e := dead.New(), dead.New()
	d.Add(1)
	d.Next("a", 1)
	if e.Has(1) || len(e.Cursors()) != 0 || e.Last() != 0 {
		t.Error("two lists share what they have")
	}
	d.All()[0].Id = 9
	d.Cursors()[0].Name = "q"
	if !d.Has(1) || d.All()[0].Id != 1 || d.Cursors()[0].Name != "a" {
		t.Error("an answer shares the list")
	}
}
