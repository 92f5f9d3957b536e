package store

import (
	"slices"

	"scree/api"
	"scree/ikey"
)

// Submit hands a client an operation.
func (s *Store) Submit(client int, op api.Op) api.Reply {
	if !s.up {
		return refused(api.ErrDown)
	}
	if client < 0 || client >= s.c.Clients {
		return refused(api.ErrClient)
	}
	m := s.machines[client]
	if m.at != resting {
		return did(api.DidNothing)
	}
	if err := s.check(op); err != api.OK {
		return refused(err)
	}
	if op.Kind == api.OpWrite && len(op.Writes) == 0 && !op.Sync {
		return did(api.DidDone)
	}
	s.take(m, op)
	return did(api.DidTake)
}

// check tells what is wrong with an operation.
func (s *Store) check(op api.Op) api.Errno {
	switch op.Kind {
	case api.OpWrite:
		return ikey.CheckBatch(op.Writes)
	case api.OpSync, api.OpSnap:
		return api.OK
	case api.OpGet:
		if err := ikey.Check(op.Key); err != api.OK {
			return err
		}
		return s.checkView(op.Snap)
	case api.OpScan:
		switch {
		case max(len(op.Key), len(op.To)) > api.MaxKey:
			return api.ErrKeyLong
		case op.N < 1 || op.N > s.c.ScanLimit:
			return api.ErrPairs
		}
		return s.checkView(op.Snap)
	case api.OpRelease:
		return s.checkSnapshot(op.Snap)
	}
	return api.ErrOp
}

// checkView refuses what a read can't see.
func (s *Store) checkView(snap int) api.Errno {
	if snap == 0 {
		return api.OK
	}
	return s.checkSnapshot(snap)
}

// checkSnapshot refuses a snapshot that isn't out.
func (s *Store) checkSnapshot(snap int) api.Errno {
	if s.snapshots[snap] == nil {
		return api.ErrSnap
	}
	return api.OK
}

// take puts a right operation under way. What its kind doesn't use is left out.
func (s *Store) take(m *machine, op api.Op) {
	switch op.Kind {
	case api.OpWrite:
		m.operation = operation{batch: slices.Clone(op.Writes), sync: op.Sync, weight: ikey.BatchWeight(op.Writes)}
		s.standInLine(m)
	case api.OpSync:
		m.operation = operation{sync: true}
		s.standInLine(m)
	case api.OpGet:
		m.operation = operation{key: op.Key, snap: op.Snap}
		m.at = getting
	case api.OpScan:
		m.operation = operation{key: op.Key, to: op.To, most: op.N, snap: op.Snap}
		m.at = scanning
	case api.OpSnap:
		m.at = snapping
	case api.OpRelease:
		m.operation = operation{snap: op.Snap}
		m.at = releasing
	}
}

// standInLine puts a write or Sync at the end of the admission line.
func (s *Store) standInLine(m *machine) {
	s.line.Join(m.number)
	m.at = inLine
}
