package script

import (
	"strconv"
	"strings"

	"tumbrel/api"
	"tumbrel/disk"
	"tumbrel/index"
	"tumbrel/queue"
	"tumbrel/store"
)

// runner is a disk, and the queue that is open on it, if one is.
type runner struct {
	disk  *disk.Disk
	queue *queue.Queue
}

// command takes its words, does its call, and tells what comes of it.
type command func(*runner, *words) ([]string, api.Errno)

// commands tells the command of each name.
func commands() map[string]command {
	return map[string]command{
		"new":     (*runner).create,
		"open":    (*runner).open,
		"put":     (*runner).put,
		"lease":   (*runner).lease,
		"drain":   (*runner).drain,
		"ack":     (*runner).ack,
		"nack":    (*runner).nack,
		"extend":  (*runner).extend,
		"tick":    (*runner).tick,
		"peek":    (*runner).peek,
		"dead":    (*runner).dead,
		"next":    (*runner).next,
		"requeue": (*runner).requeue,
		"purge":   (*runner).purge,
		"stats":   (*runner).stats,
		"sync":    (*runner).sync,
		"pack":    (*runner).pack,
		"fuse":    (*runner).fuse,
		"crash":   (*runner).crash,
	}
}

// answer does a command, if it is one, and tells its answer.
func (r *runner) answer(do command, left []string) (answer string) {
	defer func() {
		given := recover()
		if given == nil {
			return
		}
		err, is := given.(api.Errno)
		if !is {
			panic(given)
		}
		answer = failed(err)
	}()
	if do == nil {
		giveUp(api.ErrForm)
	}
	told, err := do(r, &words{left})
	if err != api.OK {
		return failed(err)
	}
	return strings.Join(append([]string{"ok"}, told...), " ")
}

// failed tells an error.
func failed(err api.Errno) string {
	return "error " + strconv.Itoa(int(err))
}

// opened tells the queue that is open, to a command that needs no more words.
func (r *runner) opened(w *words) *queue.Queue {
	w.end()
	if r.queue == nil {
		giveUp(api.ErrName)
	}
	return r.queue
}

func (r *runner) create(w *words) ([]string, api.Errno) {
	c := store.Config{
		Queue:   index.Config{Lanes: w.small(), Payload: w.small(), Deliver: w.small()},
		Segment: w.small(),
	}
	w.end()
	var err api.Errno
	r.queue, err = queue.New(r.disk, c)
	return nil, err
}

func (r *runner) open(w *words) ([]string, api.Errno) {
	w.end()
	var err api.Errno
	r.queue, err = queue.Open(r.disk)
	return nil, err
}

func (r *runner) put(w *words) ([]string, api.Errno) {
	lane, delay, text := w.small(), w.number(), ""
	if len(w.left) > 0 {
		text = w.word()
	}
	id, err := r.opened(w).Enqueue(lane, delay, []byte(text))
	return numbers(id), err
}

func (r *runner) lease(w *words) ([]string, api.Errno) {
	lane, span := w.small(), w.number()
	m, err := r.opened(w).Lease(lane, span)
	return messages(m), err
}

func (r *runner) drain(w *words) ([]string, api.Errno) {
	lane, span, most := w.small(), w.number(), w.small()
	l, err := r.opened(w).Drain(lane, span, most)
	return messages(l...), err
}

func (r *runner) ack(w *words) ([]string, api.Errno) {
	token := w.number()
	return nil, r.opened(w).Ack(token)
}

func (r *runner) nack(w *words) ([]string, api.Errno) {
	token, delay := w.number(), w.number()
	return nil, r.opened(w).Nack(token, delay)
}

func (r *runner) extend(w *words) ([]string, api.Errno) {
	token, span := w.number(), w.number()
	return nil, r.opened(w).Extend(token, span)
}

func (r *runner) tick(w *words) ([]string, api.Errno) {
	n := w.number()
	many, err := r.opened(w).Tick(n)
	return smalls(many), err
}

func (r *runner) peek(w *words) ([]string, api.Errno) {
	lane := w.small()
	m, err := r.opened(w).Peek(lane)
	return messages(m), err
}

func (r *runner) dead(w *words) ([]string, api.Errno) {
	return numbers(r.opened(w).Dead()...), api.OK
}

func (r *runner) next(w *words) ([]string, api.Errno) {
	name, count := w.word(), w.small()
	ids, err := r.opened(w).Next(name, count)
	return numbers(ids...), err
}

func (r *runner) requeue(w *words) ([]string, api.Errno) {
	id := w.number()
	return nil, r.opened(w).Requeue(id)
}

func (r *runner) purge(w *words) ([]string, api.Errno) {
	id := w.number()
	return nil, r.opened(w).Purge(id)
}

func (r *runner) stats(w *words) ([]string, api.Errno) {
	s := r.opened(w).Stats()
	told := append(numbers(s.Now, s.Next), smalls(s.Ready...)...)
	return append(told, smalls(s.Delayed, s.Leased, s.Dead)...), api.OK
}

func (r *runner) sync(w *words) ([]string, api.Errno) {
	return nil, r.opened(w).Sync()
}

func (r *runner) pack(w *words) ([]string, api.Errno) {
	return nil, r.opened(w).Pack()
}

func (r *runner) fuse(w *words) ([]string, api.Errno) {
	count := w.small()
	w.end()
	r.disk.Fuse(count)
	return nil, api.OK
}

func (r *runner) crash(w *words) ([]string, api.Errno) {
	open := w.small()
	var tails []int
	for len(w.left) > 0 {
		tails = append(tails, w.small())
	}
	r.disk.Crash(open, tails)
	r.queue = nil
	return nil, api.OK
}

// numbers tells numbers as words.
func numbers(l ...uint64) []string {
	var told []string
	for _, n := range l {
		told = append(told, strconv.FormatUint(n, 10))
	}
	return told
}

// smalls tells small numbers as words.
func smalls(l ...int) []string {
	var told []string
	for _, n := range l {
		told = append(told, strconv.Itoa(n))
	}
	return told
}

// messages tells messages, one behind the other.
func messages(l ...queue.Message) []string {
	var told []string
	for _, m := range l {
		told = append(told, numbers(m.Id, m.Token)...)
		told = append(told, smalls(m.Lane, m.Count)...)
		if len(m.Payload) > 0 {
			told = append(told, string(m.Payload))
		}
	}
	return told
}
