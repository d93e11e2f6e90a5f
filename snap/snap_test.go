package snap_test

import (
	"math"
	"math/rand/v2"
	"slices"
	"strings"
	"testing"

	"tumbrel/api"
	"tumbrel/dead"
	"tumbrel/index"
	"tumbrel/life"
	"tumbrel/record"
	"tumbrel/snap"
)

const most64 = math.MaxUint64

func same(a, b snap.Snap) bool {
	x, y := a.State, b.State
	return a.Seg == b.Seg && a.At == b.At && x.Now == y.Now && x.Next == y.Next && x.Leases == y.Leases && x.Turns == y.Turns && x.Deaths == y.Deaths &&
		slices.Equal(x.Items, y.Items) && slices.Equal(x.Dead, y.Dead) && slices.Equal(x.Cursors, y.Cursors)
}

// some is a snapshot with something of each kind.
func some() snap.Snap {
	return snap.Snap{
		State: index.State{
			Now: 1, Next: 2, Leases: 3, Turns: 4, Deaths: 5,
			Items: []index.Item{
				{Id: 6, Lane: 7, Life: life.Life{Status: 8, Count: 9, Due: 10, Token: 11}, Turn: 12, Where: index.Where{Seg: 13, At: 14, Size: 15}},
				{Id: most64, Lane: 1000, Life: life.Life{Status: 1000, Count: 1000, Due: most64, Token: most64}, Turn: most64, Where: index.Where{Seg: most64, At: most64, Size: 1000}},
			},
			Dead:    []dead.Row{{Id: 16, Place: 17}, {Id: 18, Place: most64}},
			Cursors: []dead.Cursor{{Name: "", Place: 19}, {Name: strings.Repeat("n", 64), Place: 20}},
		},
		Seg: 21, At: 22,
	}
}

func records() []record.Record {
	return []record.Record{
		{Kind: 13, N: []uint64{1, 2, 3, 4, 5, 21, 22}},
		{Kind: 14, N: []uint64{6, 7, 8, 9, 10, 11, 12, 13, 14, 15}},
		{Kind: 14, N: []uint64{most64, 1000, 1000, 1000, most64, most64, most64, most64, most64, 1000}},
		{Kind: 15, N: []uint64{16, 17}}, {Kind: 15, N: []uint64{18, most64}},
		{Kind: 16, N: []uint64{19}}, {Kind: 16, N: []uint64{20}, Text: strings.Repeat("n", 64)},
		{Kind: 17, N: []uint64{7}},
	}
}

func none(t *testing.T, what string, l []record.Record) {
	t.Helper()
	if s, err := snap.Load(l); !same(s, snap.Snap{}) || err != api.ErrForm {
		t.Errorf("Load of %s: %v, %d", what, s, err)
	}
}

func TestSaveAndLoad(t *testing.T) {
	l, err := snap.Save(some())
	if err != api.OK || !slices.EqualFunc(l, records(), record.Same) {
		t.Errorf("Save: %v, %d", l, err)
	}
	s, err := snap.Load(records())
	if err != api.OK || !same(s, some()) {
		t.Errorf("Load: %v, %d", s, err)
	}
	l, err = snap.Save(snap.Snap{})
	empty := []record.Record{{Kind: 13, N: make([]uint64, 7)}, {Kind: 17, N: []uint64{1}}}
	if err != api.OK || !slices.EqualFunc(l, empty, record.Same) {
		t.Errorf("Save of nothing: %v, %d", l, err)
	}
	if s, err := snap.Load(empty); err != api.OK || !same(s, snap.Snap{}) {
		t.Errorf("Load of nothing: %v, %d", s, err)
	}
}

func TestWhatMayNotBeIsNotSaved(t *testing.T) {
	for i, change := range []func(*snap.Snap){
		func(s *snap.Snap) { s.State.Items[0].Lane = -1 }, func(s *snap.Snap) { s.State.Items[1].Lane = 1001 },
		func(s *snap.Snap) { s.State.Items[0].Life.Status = -1 }, func(s *snap.Snap) { s.State.Items[1].Life.Status = 1001 },
		func(s *snap.Snap) { s.State.Items[0].Life.Count = -1 }, func(s *snap.Snap) { s.State.Items[1].Life.Count = 1001 },
		func(s *snap.Snap) { s.State.Items[0].Where.Size = math.MinInt }, func(s *snap.Snap) { s.State.Items[1].Where.Size = 1001 },
		func(s *snap.Snap) { s.State.Items[1].Where.Size = math.MaxInt }, func(s *snap.Snap) { s.State.Cursors[1].Name += "n" },
		func(s *snap.Snap) { s.State.Cursors[0].Name = strings.Repeat("n", 1000) },
	} {
		s := some()
		change(&s)
		if l, err := snap.Save(s); len(l) != 0 || err != api.ErrArg {
			t.Errorf("change %d: %v, %d", i, l, err)
		}
	}
	s := some()
	s.State.Items[0].Lane, s.State.Items[0].Life.Status, s.State.Items[0].Life.Count, s.State.Items[0].Where.Size = 0, 0, 0, 0
	if _, err := snap.Save(s); err != api.OK {
		t.Errorf("zeros: %d", err)
	}
}

func TestFewerOrMoreRecordsAreNone(t *testing.T) {
	none(t, "no records", nil)
	l := records()
	for i := range l {
		none(t, "a beginning", l[:i])
		none(t, "an end", l[i+1:])
		none(t, "all but one", slices.Delete(slices.Clone(l), i, i+1))
		none(t, "one twice", slices.Insert(slices.Clone(l), i, l[i]))
	}
	for i := range len(l) + 1 {
		for _, r := range []record.Record{{Kind: 1}, {Kind: 17, N: []uint64{8}}, {Kind: 17, N: []uint64{7}}, {Kind: 13, N: make([]uint64, 7)}, {Kind: 11, N: []uint64{1}}} {
			none(t, "one more", slices.Insert(slices.Clone(l), i, r))
		}
	}
	for _, n := range []uint64{0, 6, 8, most64} {
		m := slices.Clone(l)
		m[7] = record.Record{Kind: 17, N: []uint64{n}}
		none(t, "another number at the end", m)
	}
}

func TestFewerLivesAreNoneThoughTheyAreCounted(t *testing.T) {
	l := records()
	m := append(slices.Clone(l[1:7]), record.Record{Kind: 17, N: []uint64{6}})
	none(t, "no base", m)
	none(t, "no end", l[:7])
	for i := 1; i < 7; i++ {
		m := slices.Delete(slices.Clone(l), i, i+1)
		m[6] = record.Record{Kind: 17, N: []uint64{6}}
		if _, err := snap.Load(m); err != api.OK {
			t.Errorf("Load of all but %d, counted so: %d", i, err)
		}
	}
}

func TestRecordsOutOfOrder(t *testing.T) {
	l := records()
	for i := range l {
		for j := range i {
			if l[i].Kind != l[j].Kind {
				m := slices.Clone(l)
				m[i], m[j] = m[j], m[i]
				none(t, "records that changed their places", m)
			}
		}
	}
}

func TestRecordsThatMayNotBe(t *testing.T) {
	for i := range records() {
		for _, change := range []func(*record.Record){
			func(r *record.Record) { r.N = append(slices.Clone(r.N), 0) },
			func(r *record.Record) { r.N = r.N[1:] },
			func(r *record.Record) { r.Text += strings.Repeat("x", 65) },
			func(r *record.Record) { r.Kind = 18 },
		} {
			l := records()
			change(&l[i])
			none(t, "a record that may not be", l)
		}
	}
	for _, k := range []int{1, 2, 3, 9} {
		for _, n := range []uint64{1001, 1 << 32, 1 << 63, most64} {
			l := records()
			l[1].N[k] = n
			none(t, "a number too great", l)
		}
	}
}

func TestSegs(t *testing.T) {
	item := func(seg uint64) index.Item { return index.Item{Where: index.Where{Seg: seg}} }
	for _, c := range []struct{ segs, want []uint64 }{
		{nil, nil}, {[]uint64{0}, []uint64{0}}, {[]uint64{3, 1, 3, most64, 2, 1}, []uint64{1, 2, 3, most64}}, {[]uint64{5, 5, 5}, []uint64{5}},
	} {
		var l []index.Item
		for _, n := range c.segs {
			l = append(l, item(n))
		}
		before := slices.Clone(l)
		if got := snap.Segs(l); !slices.Equal(got, c.want) || !slices.Equal(l, before) {
			t.Errorf("Segs of %v: %v", c.segs, got)
		}
	}
}

func TestSnapshotsComeBack(t *testing.T) {
	r := rand.New(rand.NewPCG(13, 1))
	small := func() int { return r.IntN(1001) }
	for range 200 {
		s := snap.Snap{Seg: r.Uint64(), At: r.Uint64(), State: index.State{Now: r.Uint64(), Next: r.Uint64(), Leases: r.Uint64(), Turns: r.Uint64(), Deaths: r.Uint64()}}
		for range r.IntN(5) {
			s.State.Items = append(s.State.Items, index.Item{Id: r.Uint64(), Lane: small(), Life: life.Life{Status: small(), Count: small(), Due: r.Uint64(), Token: r.Uint64()},
				Turn: r.Uint64(), Where: index.Where{Seg: r.Uint64(), At: r.Uint64(), Size: small()}})
		}
		for range r.IntN(4) {
			s.State.Dead = append(s.State.Dead, dead.Row{Id: r.Uint64(), Place: r.Uint64()})
		}
		for range r.IntN(4) {
			s.State.Cursors = append(s.State.Cursors, dead.Cursor{Name: strings.Repeat("\xff", r.IntN(65)), Place: r.Uint64()})
		}
		l, err := snap.Save(s)
		if err != api.OK {
			t.Fatalf("Save: %d", err)
		}
		u, err := snap.Load(l)
		if err != api.OK || !same(s, u) {
			t.Fatalf("%v comes back as %v, %d", s, u, err)
		}
	}
}

func TestNothingIsShared(t *testing.T) {
	s := some()
	l, _ := snap.Save(s)
	for i := range l {
		for j := range l[i].N {
			l[i].N[j] = 99
		}
		l[i].N = append(l[i].N, 99)
	}
	if !same(s, some()) {
		t.Error("Save's records share the snapshot")
	}
	l = records()
	u, _ := snap.Load(l)
	for i := range l {
		l[i].N[0] = 99
	}
	if !same(u, some()) {
		t.Error("Load's snapshot shares the records")
	}
}
