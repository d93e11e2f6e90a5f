package store

import (
	"tumbrel/api"
	"tumbrel/disk"
	"tumbrel/events"
	"tumbrel/index"
	"tumbrel/op"
	"tumbrel/record"
	"tumbrel/root"
	"tumbrel/seglog"
	"tumbrel/snap"
)

// opening is what is known of a queue while it is opened.
type opening struct {
	disk  *disk.Disk
	root  root.Root
	saved snap.Snap
	queue *index.Index
	// done is where the last act ends that was done, seg and at are where the
	// last message ends that was put, and puts has the segments of all that
	// were.
	done    int
	seg, at uint64
	puts    []uint64
}

// Open opens the queue of a disk.
func Open(d *disk.Disk) (*Store, api.Errno) {
	r, err := root.Read(d)
	if err != api.OK {
		return nil, err
	}
	saved, err := load(d, r.Gen)
	if err != api.OK {
		return nil, err
	}
	queue, err := index.From(r.Config, saved.State)
	if err != api.OK {
		return nil, api.ErrForm
	}
	o := &opening{disk: d, root: r, saved: saved, queue: queue, seg: saved.Seg, at: saved.At}
	if err := o.replay(); err != api.OK {
		return nil, err
	}
	queue.Reset()
	log, err := o.tidy()
	if err != api.OK {
		return nil, err
	}
	return &Store{disk: d, root: r, queue: queue, log: log, fresh: true}, api.OK
}

// replay does what was done since the snapshot, up to the first message that a
// crash took away.
func (o *opening) replay() api.Errno {
	acts, ends, err := events.Load(o.disk, o.root.Gen)
	if err != api.OK {
		return err
	}
	for i, act := range acts {
		switch err := o.again(act); err {
		case api.OK:
			o.done = ends[i]
		case api.ErrShort, api.ErrName:
			return api.OK
		default:
			return err
		}
	}
	return api.OK
}

// again does an act that was done. ErrShort, and ErrName, tell that its
// message isn't there.
func (o *opening) again(act op.Op) api.Errno {
	size := 0
	if act.Do == record.Put {
		b, n, err := message(o.disk, act.Where, o.queue.Stats().Next)
		if err != api.OK {
			return err
		}
		if len(b) != act.Where.Size {
			return api.ErrForm
		}
		size = n
	}
	if op.Do(o.queue, act).Err != api.OK {
		return api.ErrForm
	}
	if act.Do == record.Put {
		w := act.Where
		o.seg, o.at = w.Seg, w.At+uint64(size)
		o.puts = append(o.puts, w.Seg)
	}
	return api.OK
}

// tidy puts the disk in order, and opens the messages' log.
func (o *opening) tidy() (*seglog.Log, api.Errno) {
	var log *seglog.Log
	err := inOrder(
		func() api.Errno { return events.Cut(o.disk, o.root.Gen, o.done) },
		func() api.Errno { return deleteAll(o.disk, o.leftOver()...) },
		func() (err api.Errno) {
			log, err = seglog.Open(o.disk, o.seg, o.at, o.root.Segment)
			return err
		},
		o.syncSegments,
		func() api.Errno { return events.Sync(o.disk, o.root.Gen) },
		o.disk.DirSync,
	)
	if err != api.OK {
		return nil, err
	}
	return log, api.OK
}

// leftOver tells the files that nothing needs, be it that the queue is opened
// once more.
func (o *opening) leftOver() []string {
	s, e, _ := ofGen(o.root.Gen)
	keep := needed(o.queue.State().Items, o.seg)
	keep = append(keep, needed(o.saved.State.Items, o.saved.Seg)...)
	keep = append(keep, o.puts...)
	return others(o.disk.Names(), []string{rootFile, s, e}, keep)
}

// syncSegments lets each segment be sure, by their numbers.
func (o *opening) syncSegments() api.Errno {
	for _, file := range segments(o.disk) {
		if err := o.disk.Sync(file); err != api.OK {
			return err
		}
	}
	return api.OK
}
