package store

import (
	"slices"

	"scree/api"
	"scree/manifest"
)

const (
	fileCurrent = "current"
	fileNew     = "new" // current while it is made
)

// installFlush lets a flusher's table take the place of its memtable. Memtables leave in the order in which they came, so that level 0 has the newest last.
func (s *Store) installFlush(m *machine) api.Reply {
	if s.frozen[0] != m.memory {
		return wait(api.WaitTurn)
	}
	if s.isRollDue() {
		return s.roll()
	}
	e := s.newEdit()
	e.Log = s.logBehind(m.memory)
	e.Seq = max(e.Seq, m.memory.Last())
	e.In = m.job.Out()
	if _, err := s.apply(e); err != api.OK {
		return s.failed(err)
	}
	old := m.memory.log
	s.frozen = slices.Delete(s.frozen, 0, 1)
	s.leaveJob(m)
	if err := s.d.Delete(logName(old)); err != api.OK {
		return s.failed(err)
	}
	return did(api.DidInstall)
}

// installCompaction lets a compactor's tables take the place of those that it had.
func (s *Store) installCompaction(m *machine) api.Reply {
	if s.isRollDue() {
		return s.roll()
	}
	gone, err := s.apply(s.compactionEdit(m.task))
	if err != api.OK {
		return s.failed(err)
	}
	s.leaveJob(m)
	if err := s.deleteTables(gone); err != api.OK {
		return s.failed(err)
	}
	return did(api.DidInstall)
}

// newEdit tells an edit that changes nothing but the numbers that every edit tells.
func (s *Store) newEdit() api.Edit {
	return api.Edit{Log: s.logBehind(nil), Next: s.nextFile, Seq: s.roots.Seq, Pointers: s.set.Pointers()}
}

// logBehind tells the least log that is wanted, if one memtable is not: that of the oldest other one.
func (s *Store) logBehind(installed *memtable) uint64 {
	for _, t := range s.frozen {
		if t != installed {
			return t.log
		}
	}
	return s.active.log
}

// compactionEdit tells the edit of a compaction or a move.
func (s *Store) compactionEdit(t task) api.Edit {
	e := s.newEdit()
	level := t.picked.Level
	for _, x := range t.picked.Upper {
		e.Out = append(e.Out, api.Place{Level: level, Number: x.Number})
	}
	for _, x := range t.picked.Lower {
		e.Out = append(e.Out, api.Place{Level: level + 1, Number: x.Number})
	}
	if t.picked.Move {
		moved := t.picked.Upper[0]
		e.In = []api.Placed{{Level: level + 1, Table: moved}}
		e.Pointers[level] = moved.Greatest
		return e
	}
	e.In = t.job.Out()
	if level > 0 {
		e.Pointers[level] = t.job.Pointer()
	}
	return e
}

// apply lays an edit down; once it is sure it holds. It tells the tables that no version has any more.
func (s *Store) apply(e api.Edit) ([]uint64, api.Errno) {
	name := manifestName(s.roots.Manifest)
	b := manifest.Bytes(s.manifest, e)
	err := inTurn(
		func() api.Errno { return s.d.Append(name, b) },
		func() api.Errno { return s.d.Sync(name) },
	)
	if err != api.OK {
		return nil, err
	}
	s.manifest += len(b)
	s.roots.Log, s.roots.Next, s.roots.Seq = e.Log, e.Next, e.Seq
	return s.set.Apply(e)
}

// isRollDue tells whether the manifest has become too long for what it says.
func (s *Store) isRollDue() bool {
	return s.manifest >= s.c.MaxManifest+2*wholeBytes(s.set, s.roots)
}

// roll makes the manifest anew. What current names is whole and sure at every time, the old one or the new one.
func (s *Store) roll() api.Reply {
	old := s.roots.Manifest
	r := s.roots
	r.Manifest = s.takeNumber()
	r.Next = s.nextFile
	name := manifestName(r.Manifest)
	b := manifest.Bytes(0, manifest.Whole(s.set, r))
	err := inTurn(
		s.lays(name, b),
		s.d.SyncDir,
		s.clearNew,
		s.lays(fileNew, manifest.Current(name)),
		func() api.Errno { return s.d.Rename(fileNew, fileCurrent) },
		s.d.SyncDir,
		func() api.Errno { return s.d.Delete(manifestName(old)) },
	)
	if err != api.OK {
		return s.failed(err)
	}
	s.roots = r
	s.manifest = len(b)
	return did(api.DidRoll)
}

// lays makes a file of these bytes, all of them sure.
func (s *Store) lays(name string, b []byte) func() api.Errno {
	return func() api.Errno {
		return inTurn(
			func() api.Errno { return s.d.Create(name) },
			func() api.Errno { return s.d.Append(name, b) },
			func() api.Errno { return s.d.Sync(name) },
		)
	}
}

// clearNew deletes the file that is to be made, if it is there.
func (s *Store) clearNew() api.Errno {
	if _, err := s.d.Read(fileNew); err != api.OK {
		return api.OK
	}
	return s.d.Delete(fileNew)
}

func manifestName(number uint64) string { return manifest.Name('m', number) }
