package store

import (
	"tumbrel/api"
	"tumbrel/disk"
	"tumbrel/index"
	"tumbrel/name"
	"tumbrel/record"
	"tumbrel/snap"
)

// The files of a queue: the root, and what stands in root.new till it is the
// root; and the letters of all others.
const (
	rootFile    = "root"
	newRoot     = "root.new"
	messageKind = 'm'
	eventKind   = 'e'
	snapKind    = 's'
)

// inOrder does calls one by one, up to the first one that has an error.
func inOrder(calls ...func() api.Errno) api.Errno {
	for _, call := range calls {
		if err := call(); err != api.OK {
			return err
		}
	}
	return api.OK
}

// deleteAll deletes files, each if it is there.
func deleteAll(d *disk.Disk, files ...string) api.Errno {
	for _, file := range files {
		if err := d.Delete(file); err != api.OK && err != api.ErrName {
			return err
		}
	}
	return api.OK
}

// ofGen tells the names of a generation's snapshot, and of its events.
func ofGen(gen uint64) (string, string, api.Errno) {
	s, err := name.Of(snapKind, gen)
	if err != api.OK {
		return "", "", err
	}
	e, err := name.Of(eventKind, gen)
	return s, e, err
}

// save writes the snapshot of a generation.
func save(d *disk.Disk, gen uint64, s snap.Snap) api.Errno {
	file, _, err := ofGen(gen)
	if err != api.OK {
		return err
	}
	records, err := snap.Save(s)
	if err != api.OK {
		return err
	}
	var all []byte
	for _, r := range records {
		b, err := record.Bytes(r)
		if err != api.OK {
			return err
		}
		all = append(all, b...)
	}
	return inOrder(
		func() api.Errno { return d.Create(file) },
		func() api.Errno { return d.Append(file, all) },
		func() api.Errno { return d.Sync(file) },
	)
}

// load reads the snapshot of a generation.
func load(d *disk.Disk, gen uint64) (snap.Snap, api.Errno) {
	file, _, err := ofGen(gen)
	if err != api.OK {
		return snap.Snap{}, err
	}
	b, err := d.Read(file)
	if err != api.OK {
		return snap.Snap{}, err
	}
	records, _, err := record.All(b)
	if err != api.OK {
		return snap.Snap{}, err
	}
	return snap.Load(records)
}

// needed tells the segments of messages, and the log's last one.
func needed(items []index.Item, last uint64) []uint64 {
	return append(snap.Segs(items), last)
}

// others tells the files of a disk that are none of those that are kept, nor
// of the segments that are.
func others(files []string, keep []string, segments []uint64) []string {
	kept := map[string]int{}
	for _, file := range keep {
		kept[file]++
	}
	for _, n := range segments {
		if file, err := name.Of(messageKind, n); err == api.OK {
			kept[file]++
		}
	}
	var l []string
	for _, file := range files {
		if kept[file] == 0 {
			l = append(l, file)
		}
	}
	return l
}

// segments tells the names of all segments of a disk, by their numbers.
func segments(d *disk.Disk) []string {
	var files []string
	for _, n := range name.Only(d.Names(), messageKind) {
		file, _ := name.Of(messageKind, n)
		files = append(files, file)
	}
	return files
}
