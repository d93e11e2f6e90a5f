package index_test

import (
	"cmp"
	"math/rand/v2"
	"slices"
	"strconv"
	"testing"

	"tumbrel/api"
	"tumbrel/dead"
	"tumbrel/index"
	"tumbrel/life"
)

var set = index.Config{Lanes: 2, Payload: 8, Deliver: 3}

// whole is a state with messages of each status.
func whole() index.State {
	return index.State{
		Now: 100, Next: 20, Leases: 50, Turns: 60, Deaths: 7,
		Items: []index.Item{
			{Id: 1, Lane: 0, Life: life.Life{Status: life.Ready, Count: 2}, Turn: 60, Where: index.Where{Seg: 9, At: 8, Size: 8}},
			{Id: 3, Lane: 1, Life: life.Life{Status: life.Ready}, Turn: 1},
			{Id: 4, Lane: 1, Life: life.Life{Status: life.Delayed, Count: 2, Due: 101}},
			{Id: 5, Lane: 1, Life: life.Life{Status: life.Leased, Count: 3, Due: 101, Token: 50}},
			{Id: 6, Lane: 0, Life: life.Life{Status: life.Leased, Count: 1, Due: most64, Token: 1}},
			{Id: 8, Lane: 0, Life: life.Life{Status: life.Dead, Count: 3}},
			{Id: 19, Lane: 1, Life: life.Life{Status: life.Dead, Count: 3}},
		},
		Dead:    []dead.Row{{Id: 19, Place: 2}, {Id: 8, Place: 7}},
		Cursors: []dead.Cursor{{Name: "a", Place: 7}, {Name: "b"}},
	}
}

func taken(t *testing.T, what string, s index.State, want bool) {
	t.Helper()
	x, err := index.From(set, s)
	if want && (err != api.OK || !same(x.State(), s) || !same(x.Copy().State(), s)) {
		t.Errorf("%s: From: %d", what, err)
	}
	if !want && (x != nil || err != api.ErrArg) {
		t.Errorf("%s: From: %d", what, err)
	}
}

func TestFromTakesStates(t *testing.T) {
	taken(t, "a whole one", whole(), true)
	taken(t, "an empty one", index.State{Next: 1}, true)
	for _, c := range []struct {
		what   string
		change func(*index.State)
	}{
		{"no id left", func(s *index.State) { s.Next = 0 }},
		{"the last time", func(s *index.State) { s.Items, s.Dead, s.Now = nil, nil, most64 }},
		{"the most leases, turns and deaths", func(s *index.State) { s.Leases, s.Turns, s.Deaths = 1<<62, 1<<62, 1<<62 }},
		{"any place of a payload", func(s *index.State) { s.Items[0].Where.Seg, s.Items[0].Where.At = most64, most64 }},
		{"no payload", func(s *index.State) { s.Items[0].Where.Size = 0 }},
		{"the next id", func(s *index.State) { s.Next = 20 }},
	} {
		s := whole()
		c.change(&s)
		taken(t, c.what, s, true)
	}
}

func TestFromRefusesWhatIsNone(t *testing.T) {
	for _, c := range []struct {
		what   string
		change func(*index.State)
	}{
		{"too many leases", func(s *index.State) { s.Leases = 1<<62 + 1 }},
		{"too many turns", func(s *index.State) { s.Turns = 1<<62 + 1 }},
		{"too many deaths", func(s *index.State) { s.Deaths = 1<<62 + 1 }},
		{"too few deaths", func(s *index.State) { s.Deaths = 6 }},
		{"the dead out of order", func(s *index.State) { slices.Reverse(s.Dead) }},
		{"consumers out of order", func(s *index.State) { slices.Reverse(s.Cursors) }},
		{"a consumer too far", func(s *index.State) { s.Cursors[0].Place = 8 }},
		{"no consumer's name", func(s *index.State) { s.Cursors[0].Name = "A" }},
		{"ids out of order", func(s *index.State) { slices.Reverse(s.Items) }},
		{"an id twice", func(s *index.State) { s.Items[1].Id = 1 }},
		{"the id 0", func(s *index.State) { s.Items[0].Id = 0 }},
		{"an id that isn't given yet", func(s *index.State) { s.Next = 19 }},
		{"a lane too high", func(s *index.State) { s.Items[0].Lane = 2 }},
		{"a lane too low", func(s *index.State) { s.Items[0].Lane = -1 }},
		{"a size too great", func(s *index.State) { s.Items[0].Where.Size = 9 }},
		{"a size below 0", func(s *index.State) { s.Items[0].Where.Size = -1 }},
		{"no status", func(s *index.State) { s.Items[0].Life.Status = 0 }},
		{"no status below", func(s *index.State) { s.Items[0].Life.Status = -1 }},
		{"gone", func(s *index.State) { s.Items[0].Life, s.Items[0].Turn = life.Life{Status: life.Gone}, 0 }},
		{"ready, Count of Deliver", func(s *index.State) { s.Items[0].Life.Count = 3 }},
		{"ready, Count below 0", func(s *index.State) { s.Items[0].Life.Count = -1 }},
		{"ready with a Due", func(s *index.State) { s.Items[0].Life.Due = 101 }},
		{"ready with a Token", func(s *index.State) { s.Items[0].Life.Token = 2 }},
		{"ready without a Turn", func(s *index.State) { s.Items[0].Turn = 0 }},
		{"ready, a Turn too high", func(s *index.State) { s.Items[0].Turn = 61 }},
		{"ready, another one's Turn", func(s *index.State) { s.Items[0].Turn = 1 }},
		{"delayed, Count of Deliver", func(s *index.State) { s.Items[2].Life.Count = 3 }},
		{"delayed, Count below 0", func(s *index.State) { s.Items[2].Life.Count = -1 }},
		{"delayed, Due now", func(s *index.State) { s.Items[2].Life.Due = 100 }},
		{"delayed, Due 0", func(s *index.State) { s.Items[2].Life.Due = 0 }},
		{"delayed with a Token", func(s *index.State) { s.Items[2].Life.Token = 2 }},
		{"delayed with a Turn", func(s *index.State) { s.Items[2].Turn = 2 }},
		{"leased, Count 0", func(s *index.State) { s.Items[4].Life.Count = 0 }},
		{"leased, Count above Deliver", func(s *index.State) { s.Items[4].Life.Count = 4 }},
		{"leased, Due now", func(s *index.State) { s.Items[4].Life.Due = 100 }},
		{"leased without a Token", func(s *index.State) { s.Items[4].Life.Token = 0 }},
		{"leased, a Token too high", func(s *index.State) { s.Items[4].Life.Token = 51 }},
		{"leased, another one's Token", func(s *index.State) { s.Items[4].Life.Token = 50 }},
		{"leased with a Turn", func(s *index.State) { s.Items[4].Turn = 2 }},
		{"dead, Count below Deliver", func(s *index.State) { s.Items[5].Life.Count = 2 }},
		{"dead, Count above Deliver", func(s *index.State) { s.Items[5].Life.Count = 4 }},
		{"dead with a Due", func(s *index.State) { s.Items[5].Life.Due = 101 }},
		{"dead with a Token", func(s *index.State) { s.Items[5].Life.Token = 2 }},
		{"dead with a Turn", func(s *index.State) { s.Items[5].Turn = 2 }},
		{"dead, not in the list", func(s *index.State) { s.Dead = s.Dead[:1] }},
		{"in the list, not there", func(s *index.State) { s.Dead[1].Id = 7 }},
		{"in the list, too, not dead", func(s *index.State) { s.Dead = append(s.Dead[:1], dead.Row{Id: 1, Place: 3}, s.Dead[1]) }},
		{"none dead, but the list", func(s *index.State) { s.Items = s.Items[:5] }},
		{"no list, but the dead", func(s *index.State) { s.Dead = nil }},
	} {
		s := whole()
		c.change(&s)
		taken(t, c.what, s, false)
	}
}

func TestMostItems(t *testing.T) {
	s := index.State{Next: 1000, Turns: 300}
	for n := range uint64(200) {
		s.Items = append(s.Items, index.Item{Id: n + 1, Life: life.Life{Status: life.Ready}, Turn: 300 - n})
	}
	taken(t, "200 messages", s, true)
	x, _ := index.From(set, s)
	for n := range uint64(200) {
		leased(t, x, 0, 1, 200-n) // by their turns
	}
	s.Items = append(s.Items, index.Item{Id: 201, Life: life.Life{Status: life.Ready}, Turn: 1})
	taken(t, "201 messages", s, false)
}

func TestWhatIsMadeGoesOn(t *testing.T) {
	x, err := index.From(set, whole())
	fine(t, err)
	leased(t, x, 1, 5, 3)
	if it, _ := x.Get(3); it.Life.Token != 51 {
		t.Errorf("the next token is %d", it.Life.Token)
	}
	if id := put(t, x, 0, 0); id != 20 {
		t.Errorf("the next id is %d", id)
	}
	if it, _ := x.Get(20); it.Turn != 61 {
		t.Errorf("the next turn is %d", it.Turn)
	}
	ticked(t, x, 1, 2)
	if s := x.State(); !slices.Equal(s.Dead, []dead.Row{{Id: 19, Place: 2}, {Id: 8, Place: 7}, {Id: 5, Place: 8}}) || s.Turns != 62 {
		t.Errorf("behind Tick: %v", s)
	}
	if ids, err := x.Seen("b", 9); !slices.Equal(ids, []uint64{19, 8, 5}) || err != api.OK {
		t.Errorf("Seen = %v, %d", ids, err)
	}
	if ids, err := x.Seen("a", 9); !slices.Equal(ids, []uint64{5}) || err != api.OK {
		t.Errorf("Seen = %v, %d", ids, err)
	}
}

// slow is a queue that is told as the chapter tells it: one list, gone through each time.
type slow struct {
	c     index.Config
	s     index.State
	names map[string]uint64
}

// lives lets the i-th message live so, or takes it away.
func (q *slow) lives(i int, l life.Life) index.Item {
	it := &q.s.Items[i]
	if it.Life.Status == life.Dead {
		q.s.Dead = slices.DeleteFunc(q.s.Dead, func(r dead.Row) bool { return r.Id == it.Id })
	}
	it.Life, it.Turn = l, 0
	switch l.Status {
	case life.Ready:
		q.s.Turns++
		it.Turn = q.s.Turns
	case life.Dead:
		q.s.Deaths++
		q.s.Dead = append(q.s.Dead, dead.Row{Id: it.Id, Place: q.s.Deaths})
	case life.Gone:
		gone := *it
		q.s.Items = slices.Delete(q.s.Items, i, i+1)
		return gone
	}
	return *it
}

func (q *slow) at(right func(index.Item) bool) int { return slices.IndexFunc(q.s.Items, right) }

func (q *slow) put(lane int, delay uint64, w index.Where) uint64 {
	l, _ := life.Born(q.s.Now, delay)
	id := q.s.Next
	q.s.Items = append(q.s.Items, index.Item{Id: id, Lane: lane, Where: w})
	q.lives(len(q.s.Items)-1, l)
	q.s.Next++
	return id
}

func (q *slow) peek(lane int) int {
	best := -1
	for i, it := range q.s.Items {
		if it.Life.Status != life.Ready || lane != -1 && it.Lane != lane {
			continue
		}
		if best < 0 || it.Lane < q.s.Items[best].Lane || it.Lane == q.s.Items[best].Lane && it.Turn < q.s.Items[best].Turn {
			best = i
		}
	}
	return best
}

// passing does something with all that are right, by Due, and by Id.
func (q *slow) passing(right func(index.Item) bool, what func(life.Life) life.Life) int {
	var l []index.Item
	for _, it := range q.s.Items {
		if right(it) {
			l = append(l, it)
		}
	}
	slices.SortFunc(l, func(a, b index.Item) int {
		return cmp.Or(cmp.Compare(a.Life.Due, b.Life.Due), cmp.Compare(a.Id, b.Id))
	})
	for _, it := range l {
		q.lives(q.at(func(x index.Item) bool { return x.Id == it.Id }), what(it.Life))
	}
	return len(l)
}

func (q *slow) tick(n uint64) int {
	q.s.Now += n
	return q.passing(func(it index.Item) bool {
		return (it.Life.Status == life.Delayed || it.Life.Status == life.Leased) && it.Life.Due <= q.s.Now
	}, func(l life.Life) life.Life { return l.Pass(q.s.Now, q.c.Deliver) })
}

func (q *slow) reset() {
	q.passing(func(it index.Item) bool { return it.Life.Status == life.Leased }, func(l life.Life) life.Life { return l.Reset(q.c.Deliver) })
}

func (q *slow) seen(name string, n int) []uint64 {
	var ids []uint64
	for _, r := range q.s.Dead {
		if r.Place > q.names[name] && len(ids) < n {
			ids = append(ids, r.Id)
			q.names[name] = r.Place
		}
	}
	if _, known := q.names[name]; !known {
		q.names[name] = 0
	}
	q.s.Cursors = nil
	for _, name := range []string{"a", "b"} {
		if place, known := q.names[name]; known {
			q.s.Cursors = append(q.s.Cursors, dead.Cursor{Name: name, Place: place})
		}
	}
	return ids
}

// lease does one of three things with a lease.
func (q *slow) lease(what int, token, n uint64) (index.Item, api.Errno) {
	i := q.at(func(it index.Item) bool { return it.Life.Status == life.Leased && it.Life.Token == token })
	if i < 0 {
		return index.Item{}, api.ErrToken
	}
	l, err := q.s.Items[i].Life, api.OK
	switch what {
	case 0:
		l, err = l.Ack(token)
	case 1:
		l, err = l.Nack(token, q.s.Now, n, q.c.Deliver)
	case 2:
		l, err = l.Extend(token, q.s.Now, n)
	}
	if err != api.OK {
		return index.Item{}, err
	}
	return q.lives(i, l), api.OK
}

// dead does one of two things with a dead message.
func (q *slow) dead(what int, id uint64) api.Errno {
	i := q.at(func(it index.Item) bool { return it.Life.Status == life.Dead && it.Id == id })
	if i < 0 {
		return api.ErrName
	}
	q.lives(i, []life.Life{{Status: life.Ready}, {Status: life.Gone}}[what])
	return api.OK
}

// step does one thing with both, and fails the test, if they answer otherwise.
func step(t *testing.T, r *rand.Rand, x *index.Index, q *slow) {
	t.Helper()
	n, token, lane := r.Uint64N(6), r.Uint64N(q.s.Leases+2), r.IntN(q.c.Lanes)
	id := 1 + r.Uint64N(q.s.Next+1)
	switch what := r.IntN(12); what {
	case 0, 1:
		w := index.Where{Seg: r.Uint64(), At: r.Uint64(), Size: r.IntN(9)}
		got, err := x.Put(lane, n/2, w)
		if want := q.put(lane, n/2, w); got != want || err != api.OK {
			t.Fatalf("Put = %d, %d, want %d", got, err, want)
		}
	case 2, 3, 4:
		lane -= r.IntN(2)
		i := q.peek(lane)
		seen, err := x.Peek(lane)
		got, err2 := x.Lease(lane, n+1)
		if i < 0 {
			if err != api.ErrNone || err2 != api.ErrNone {
				t.Fatalf("Lease of none: %d, %d", err, err2)
			}
			return
		}
		q.s.Leases++
		l, _ := q.s.Items[i].Life.Lease(q.s.Now, n+1, q.s.Leases)
		if seen != q.s.Items[i] || got != q.lives(i, l) || err != api.OK || err2 != api.OK {
			t.Fatalf("Peek = %v, %d, Lease = %v, %d", seen, err, got, err2)
		}
	case 5, 6, 7:
		got, err := []func(uint64, uint64) (index.Item, api.Errno){
			func(token, _ uint64) (index.Item, api.Errno) { return x.Ack(token) }, x.Nack, x.Extend,
		}[what-5](token, n)
		want, wantErr := q.lease(what-5, token, n)
		if got != want || err != wantErr {
			t.Fatalf("call %d of the token %d: %v, %d, want %v, %d", what, token, got, err, want, wantErr)
		}
	case 8:
		many, err := x.Tick(n)
		if want := q.tick(n); many != want || err != api.OK {
			t.Fatalf("Tick = %d, %d, want %d", many, err, want)
		}
	case 9:
		err := []func(uint64) api.Errno{x.Requeue, x.Purge}[n%2](id)
		if want := q.dead(int(n%2), id); err != want {
			t.Fatalf("Requeue or Purge: %d, want %d", err, want)
		}
	case 10:
		name := string(rune('a' + r.IntN(2)))
		ids, err := x.Seen(name, int(n)+1)
		if want := q.seen(name, int(n)+1); !slices.Equal(ids, want) || err != api.OK {
			t.Fatalf("Seen = %v, %d, want %v", ids, err, want)
		}
	case 11:
		if n == 0 {
			x.Reset()
			q.reset()
		}
	}
}

func TestAsTheSlowOne(t *testing.T) {
	for seed := range 150 {
		r := rand.New(rand.NewPCG(11, uint64(seed)))
		c := index.Config{Lanes: 1 + r.IntN(3), Payload: 8, Deliver: 1 + r.IntN(3)}
		x, err := index.New(c)
		fine(t, err)
		q := &slow{c: c, s: index.State{Next: 1}, names: map[string]uint64{}}
		for n := range 200 {
			step(t, r, x, q)
			if !same(x.State(), q.s) {
				t.Fatalf("seed %d, step %d: %v, want %v", seed, n, x.State(), q.s)
			}
			counted(t, x, q.s, c)
			switch r.IntN(10) {
			case 0:
				x = x.Copy()
			case 1:
				if x, err = index.From(c, x.State()); err != api.OK {
					t.Fatalf("a state that is told is none: %d", err)
				}
			}
		}
	}
}

// counted fails the test, if Stats and Get tell anything but the state.
func counted(t *testing.T, x *index.Index, s index.State, c index.Config) {
	t.Helper()
	ready, many := make([]int, c.Lanes), map[int]int{}
	for _, it := range s.Items {
		many[it.Life.Status]++
		if it.Life.Status == life.Ready {
			ready[it.Lane]++
		}
		if got, is := x.Get(it.Id); got != it || !is || it.Life.Count > c.Deliver {
			t.Fatalf("Get(%d) = %v, %v, want %v", it.Id, got, is, it)
		}
	}
	st := x.Stats()
	if st.Now != s.Now || st.Next != s.Next || !slices.Equal(st.Ready, ready) || st.Delayed != many[life.Delayed] || st.Leased != many[life.Leased] || st.Dead != many[life.Dead] {
		t.Fatalf("Stats = %v of %s", st, strconv.Itoa(len(s.Items)))
	}
}
