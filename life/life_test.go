package life_test

import (
	"math"
	"testing"

	"tumbrel/api"
	"tumbrel/life"
)

const most64 = math.MaxUint64

// is fails the test, if a life or an error is another one.
func is(t *testing.T, what string, l life.Life, err api.Errno, want life.Life, wantErr api.Errno) {
	t.Helper()
	if l != want || err != wantErr {
		t.Errorf("%s: %v, %d, want %v, %d", what, l, err, want, wantErr)
	}
}

// lives are lives of all statuses, and of what is none, with numbers of all kinds.
func lives() []life.Life {
	var l []life.Life
	for status := -1; status <= 6; status++ {
		for _, count := range []int{-1, 0, 1, 2, 3, 20, math.MaxInt} {
			for _, due := range []uint64{0, 1, 5, 6, most64} {
				for _, token := range []uint64{0, 1, 7, most64} {
					l = append(l, life.Life{Status: status, Count: count, Due: due, Token: token})
				}
			}
		}
	}
	return l
}

func TestStatuses(t *testing.T) {
	for i, n := range []int{life.Ready, life.Delayed, life.Leased, life.Dead, life.Gone} {
		if n != i+1 {
			t.Errorf("status %d is %d", i+1, n)
		}
	}
}

func TestBorn(t *testing.T) {
	for _, c := range []struct {
		now, delay uint64
		want       life.Life
		err        api.Errno
	}{
		{0, 0, life.Life{Status: life.Ready}, api.OK},
		{7, 0, life.Life{Status: life.Ready}, api.OK},
		{most64, 0, life.Life{Status: life.Ready}, api.OK},
		{7, 3, life.Life{Status: life.Delayed, Due: 10}, api.OK},
		{0, most64, life.Life{Status: life.Delayed, Due: most64}, api.OK},
		{most64 - 1, 1, life.Life{Status: life.Delayed, Due: most64}, api.OK},
		{most64, 1, life.Life{}, api.ErrOver},
		{1, most64, life.Life{}, api.ErrOver},
		{most64, most64, life.Life{}, api.ErrOver},
	} {
		l, err := life.Born(c.now, c.delay)
		is(t, "Born", l, err, c.want, c.err)
	}
}

func TestLease(t *testing.T) {
	for _, l := range lives() {
		for _, c := range []struct {
			now, span uint64
			err       api.Errno
		}{{5, 3, api.OK}, {0, most64, api.OK}, {most64 - 1, 1, api.OK}, {5, 0, api.ErrArg}, {most64, 0, api.ErrArg}, {most64, 1, api.ErrOver}, {2, most64 - 1, api.ErrOver}} {
			want, wantErr := life.Life{}, c.err
			if l.Status != life.Ready {
				wantErr = api.ErrNone
			} else if c.err == api.OK {
				count := l.Count
				count++
				want = life.Life{Status: life.Leased, Count: count, Due: c.now + c.span, Token: 9}
			}
			m, err := l.Lease(c.now, c.span, 9)
			is(t, "Lease", m, err, want, wantErr)
		}
	}
	l, err := life.Life{Status: life.Ready, Count: math.MaxInt}.Lease(0, 1, 0)
	is(t, "a Count goes round", l, err, life.Life{Status: life.Leased, Count: math.MinInt, Due: 1}, api.OK)
}

func TestAck(t *testing.T) {
	for _, l := range lives() {
		for _, token := range []uint64{0, 1, 7, most64} {
			want, wantErr := life.Life{}, api.ErrToken
			if l.Status == life.Leased && l.Token == token {
				want, wantErr = life.Life{Status: life.Gone}, api.OK
			}
			m, err := l.Ack(token)
			is(t, "Ack", m, err, want, wantErr)
		}
	}
}

// ended is how a lease ends, by the number most.
func ended(l life.Life, most int) life.Life {
	if l.Count >= most {
		return life.Life{Status: life.Dead, Count: l.Count}
	}
	return life.Life{Status: life.Ready, Count: l.Count}
}

func TestNack(t *testing.T) {
	for _, l := range lives() {
		for _, most := range []int{-5, 0, 1, 2, 20} {
			for _, c := range []struct{ now, delay, token uint64 }{{5, 0, 7}, {5, 3, 7}, {most64, 0, 7}, {most64, 1, 7}, {most64 - 1, 1, 7}, {0, most64, 0}, {1, most64, 7}} {
				want, wantErr := life.Life{}, api.OK
				switch {
				case l.Status != life.Leased || l.Token != c.token:
					wantErr = api.ErrToken
				case l.Count >= most || c.delay == 0:
					want = ended(l, most)
				case c.now+c.delay < c.now:
					wantErr = api.ErrOver
				default:
					want = life.Life{Status: life.Delayed, Count: l.Count, Due: c.now + c.delay}
				}
				m, err := l.Nack(c.token, c.now, c.delay, most)
				is(t, "Nack", m, err, want, wantErr)
			}
		}
	}
}

func TestExtend(t *testing.T) {
	for _, l := range lives() {
		for _, c := range []struct{ now, span, token uint64 }{{5, 0, 7}, {5, 3, 7}, {0, 1, 7}, {most64, 0, 7}, {most64, 1, 7}, {most64 - 1, 1, 7}, {1, most64, 0}} {
			want, wantErr := life.Life{}, api.OK
			switch {
			case l.Status != life.Leased || l.Token != c.token:
				wantErr = api.ErrToken
			case c.span == 0:
				wantErr = api.ErrArg
			case c.now+c.span < c.now:
				wantErr = api.ErrOver
			default:
				want = life.Life{Status: life.Leased, Count: l.Count, Due: c.now + c.span, Token: l.Token}
			}
			m, err := l.Extend(c.token, c.now, c.span)
			is(t, "Extend", m, err, want, wantErr)
		}
	}
}

func TestPassAndReset(t *testing.T) {
	for _, l := range lives() {
		for _, most := range []int{-1, 0, 1, 2, 20, math.MaxInt} {
			for _, now := range []uint64{0, 4, 5, 6, most64} {
				want := l
				if l.Status == life.Delayed && l.Due <= now {
					want = life.Life{Status: life.Ready, Count: l.Count, Token: l.Token}
				} else if l.Status == life.Leased && l.Due <= now {
					want = ended(l, most)
				}
				is(t, "Pass", l.Pass(now, most), 0, want, 0)
			}
			want := l
			if l.Status == life.Leased {
				want = ended(l, most)
			}
			is(t, "Reset", l.Reset(most), 0, want, 0)
		}
	}
}

func TestRequeueAndPurge(t *testing.T) {
	for _, l := range lives() {
		m, err := l.Requeue()
		n, err2 := l.Purge()
		if l.Status != life.Dead {
			is(t, "Requeue", m, err, life.Life{}, api.ErrName)
			is(t, "Purge", n, err2, life.Life{}, api.ErrName)
			continue
		}
		is(t, "Requeue", m, err, life.Life{Status: life.Ready}, api.OK)
		is(t, "Purge", n, err2, life.Life{Status: life.Gone}, api.OK)
	}
}

func TestExample(t *testing.T) {
	l, err := life.Life{Status: life.Leased, Count: 1, Due: 5, Token: 3}.Nack(3, 0, 9, 1)
	is(t, "Nack of the last lease", l, err, life.Life{Status: life.Dead, Count: 1}, api.OK)
}

// Whatever happens by one number most, the Count stays at most that; the dead come back by Requeue alone, and the gone never.
func TestWhatFollows(t *testing.T) {
	for most := 1; most <= 3; most++ {
		seen := map[life.Life]bool{}
		start, _ := life.Born(0, 2)
		work := []life.Life{start, {Status: life.Ready}}
		for len(work) > 0 {
			l := work[0]
			work = work[1:]
			if seen[l] {
				continue
			}
			seen[l] = true
			if l.Count > most || l.Count < 0 {
				t.Fatalf("most %d: %v", most, l)
			}
			for now := range uint64(4) {
				for token := range uint64(3) {
					for _, m := range after(l, now, token, most) {
						if l.Status == life.Gone && m != l || l.Status == life.Dead && m != l && m.Status != life.Gone && m != (life.Life{Status: life.Ready}) {
							t.Fatalf("%v becomes %v", l, m)
						}
						work = append(work, m)
					}
				}
			}
		}
	}
}

// after tells what may come of a life.
func after(l life.Life, now, token uint64, most int) []life.Life {
	next := []life.Life{l.Pass(now, most), l.Reset(most)}
	add := func(m life.Life, err api.Errno) {
		if err == api.OK {
			next = append(next, m)
		}
	}
	add(l.Lease(now, 2, token))
	add(l.Ack(token))
	add(l.Nack(token, now, 0, most))
	add(l.Nack(token, now, 1, most))
	add(l.Extend(token, now, 1))
	add(l.Purge())
	if l.Status == life.Dead {
		add(l.Requeue())
	}
	return next
}
