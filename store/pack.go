package store

import (
	"tumbrel/api"
	"tumbrel/events"
	"tumbrel/root"
	"tumbrel/snap"
)

// Pack begins the next generation, with a snapshot of the queue as it is.
func (s *Store) Pack() api.Errno {
	if err := s.log.Sync(); err != api.OK {
		return err
	}
	next := s.root
	next.Gen++
	snapFile, eventFile, err := ofGen(next.Gen)
	if err != api.OK {
		return api.ErrFull
	}
	if err := deleteAll(s.disk, snapFile, eventFile); err != api.OK {
		return err
	}
	err = s.begin(next)
	if err == api.ErrFull {
		return s.giveUp(snapFile, eventFile)
	}
	if err != api.OK {
		return err
	}
	old := s.root.Gen
	s.root, s.fresh = next, false
	return s.deleteOld(old)
}

// begin writes what the next generation is.
func (s *Store) begin(next root.Root) api.Errno {
	seg, at := s.log.End()
	return inOrder(
		func() api.Errno { return save(s.disk, next.Gen, snap.Snap{State: s.State(), Seg: seg, At: at}) },
		func() api.Errno { return events.Begin(s.disk, next.Gen) },
		func() api.Errno { return root.Write(s.disk, next) },
	)
}

// giveUp takes away what was written of a generation for which there is no
// room.
func (s *Store) giveUp(snapFile, eventFile string) api.Errno {
	err := inOrder(
		func() api.Errno { return deleteAll(s.disk, snapFile, eventFile, newRoot) },
		s.disk.DirSync,
	)
	if err != api.OK {
		return err
	}
	return api.ErrFull
}

// deleteOld takes away the generation ahead, and the segments that it alone
// needed.
func (s *Store) deleteOld(gen uint64) api.Errno {
	snapFile, eventFile, _ := ofGen(gen)
	last, _ := s.log.End()
	unneeded := others(segments(s.disk), nil, needed(s.State().Items, last))
	return inOrder(
		func() api.Errno { return deleteAll(s.disk, snapFile, eventFile) },
		func() api.Errno { return deleteAll(s.disk, unneeded...) },
		s.disk.DirSync,
	)
}
