package index

import (
	"cmp"
	"slices"

	"tumbrel/api"
	"tumbrel/dead"
	"tumbrel/due"
	"tumbrel/lane"
	"tumbrel/life"
)

// mostCounted is how many leases, turns or deaths a state may have had.
const mostCounted = 1 << 62

// State is all of a queue.
type State struct {
	Now, Next, Leases, Turns, Deaths uint64
	Items                            []Item
	Dead                             []dead.Row
	Cursors                          []dead.Cursor
}

// From makes a queue of its state.
func From(c Config, s State) (*Index, api.Errno) {
	if !Right(c) || !stateRight(c, s) {
		return nil, api.ErrArg
	}
	return made(c, s), api.OK
}

// State tells all of it.
func (x *Index) State() State {
	items := x.which(func(Item) bool { return true })
	slices.SortFunc(items, byId)
	return State{
		Now: x.now, Next: x.next, Leases: x.leases, Turns: x.turns, Deaths: x.dead.Last(),
		Items: items, Dead: x.dead.All(), Cursors: x.dead.Cursors(),
	}
}

// Copy makes a queue in the same state.
func (x *Index) Copy() *Index {
	return made(x.config, x.State())
}

// made makes a queue of a state that may be.
func made(c Config, s State) *Index {
	d, _ := dead.From(s.Deaths, s.Dead, s.Cursors)
	x := &Index{
		config: c, now: s.Now, next: s.Next, leases: s.Leases, turns: s.Turns,
		items: map[uint64]Item{}, due: due.New(), holders: map[uint64]uint64{}, dead: d,
	}
	for n := range x.lanes {
		x.lanes[n] = lane.New()
	}
	items := slices.Clone(s.Items)
	slices.SortFunc(items, byTurn)
	for _, it := range items {
		x.enter(it)
	}
	return x
}

// which tells the messages that are right, in no order.
func (x *Index) which(right func(Item) bool) []Item {
	var items []Item
	for _, it := range x.items {
		if right(it) {
			items = append(items, it)
		}
	}
	return items
}

func byId(a, b Item) int {
	return cmp.Compare(a.Id, b.Id)
}

func byTurn(a, b Item) int {
	return cmp.Compare(a.Turn, b.Turn)
}

func byDue(a, b Item) int {
	return cmp.Or(cmp.Compare(a.Life.Due, b.Life.Due), byId(a, b))
}

// stateRight tells whether s is a state of a queue that is set so.
func stateRight(c Config, s State) bool {
	if max(s.Leases, s.Turns, s.Deaths) > mostCounted || len(s.Items) > api.MostLive {
		return false
	}
	d, err := dead.From(s.Deaths, s.Dead, s.Cursors)
	if err != api.OK {
		return false
	}
	return idsRight(s) && itemsRight(c, s) && deadRight(d, s)
}

// idsRight tells whether the ids rise, and are below the next one.
func idsRight(s State) bool {
	ahead := uint64(0)
	for _, it := range s.Items {
		if it.Id <= ahead || s.Next != 0 && it.Id >= s.Next {
			return false
		}
		ahead = it.Id
	}
	return true
}

// itemsRight tells whether each message may be, and none has another one's
// turn or token.
func itemsRight(c Config, s State) bool {
	turns, tokens := map[uint64]struct{}{}, map[uint64]struct{}{}
	ready, leased := 0, 0
	for _, it := range s.Items {
		if it.Lane < 0 || it.Lane >= c.Lanes || it.Where.Size < 0 || it.Where.Size > c.Payload || !lifeRight(c, s, it) {
			return false
		}
		switch it.Life.Status {
		case life.Ready:
			turns[it.Turn] = struct{}{}
			ready++
		case life.Leased:
			tokens[it.Life.Token] = struct{}{}
			leased++
		}
	}
	return len(turns) == ready && len(tokens) == leased
}

// lifeRight tells whether a message's life and turn may be.
func lifeRight(c Config, s State, it Item) bool {
	l := it.Life
	stands := l.Token == 0 && l.Due == 0
	switch l.Status {
	case life.Ready:
		return l.Count >= 0 && l.Count < c.Deliver && stands && it.Turn >= 1 && it.Turn <= s.Turns
	case life.Delayed:
		return l.Count >= 0 && l.Count < c.Deliver && l.Token == 0 && l.Due > s.Now && it.Turn == 0
	case life.Leased:
		return l.Count >= 1 && l.Count <= c.Deliver && l.Token >= 1 && l.Token <= s.Leases && l.Due > s.Now && it.Turn == 0
	case life.Dead:
		return l.Count == c.Deliver && stands && it.Turn == 0
	}
	return false
}

// deadRight tells whether the dead are just those of the list.
func deadRight(d *dead.Dead, s State) bool {
	n := 0
	for _, it := range s.Items {
		if it.Life.Status != life.Dead {
			continue
		}
		if !d.Has(it.Id) {
			return false
		}
		n++
	}
	return n == len(s.Dead)
}
