package store

import (
	"slices"

	"scree/api"
	"scree/job"
	"scree/pick"
	"scree/version"
)

// claimFlush gives a flusher the oldest frozen memtable that no other one has.
func (s *Store) claimFlush(m *machine) api.Reply {
	at := slices.IndexFunc(s.frozen, s.isUnclaimed)
	if at < 0 {
		return did(api.DidIdle)
	}
	if s.isStopped() {
		return wait(api.WaitStop)
	}
	m.memory = s.frozen[at]
	m.job = job.Flush(s.c, s.d, m.memory.Table)
	m.at = m.nextPlace()
	return did(api.DidClaim)
}

// isUnclaimed tells whether no flusher has a memtable.
func (s *Store) isUnclaimed(t *memtable) bool {
	return !slices.ContainsFunc(s.workers(), func(m *machine) bool { return m.memory == t })
}

// claimCompaction gives a compactor the job that is picked now.
func (s *Store) claimCompaction(m *machine) api.Reply {
	v := s.set.Current()
	picked, found := pick.Next(s.c, v, s.set.Pointers(), s.locked())
	switch found {
	case pick.None:
		return did(api.DidIdle)
	case pick.Blocked:
		return wait(api.WaitLocks)
	}
	m.picked = picked
	if !picked.Move {
		m.job = job.Compact(s.c, s.d, picked, s.table, below(v, picked.Level+1))
	}
	m.at = m.nextPlace()
	return did(api.DidClaim)
}

// locked tells the tables that compactors have. (In read-only none is asked for, so that no lock need outlive its job.)
func (s *Store) locked() []uint64 {
	var l []uint64
	for _, m := range s.workers() {
		for _, t := range slices.Concat(m.picked.Upper, m.picked.Lower) {
			l = append(l, t.Number)
		}
	}
	return l
}

// below tells of a key whether a level of a greater number may hold it.
func below(v *version.Version, level int) func(key string) bool {
	return func(key string) bool {
		for deeper := level + 1; deeper < v.Levels(); deeper++ {
			if len(v.Holds(deeper, key)) > 0 {
				return true
			}
		}
		return false
	}
}

// nextPlace tells what a worker with a job is at next.
func (m *machine) nextPlace() place {
	next := job.Done
	if m.job != nil {
		next = m.job.Next()
	}
	isFlush := m.memory != nil
	switch {
	case next == job.Make:
		return making
	case next == job.Fill:
		return filling
	case next == job.Write && isFlush:
		return writing
	case next == job.Write:
		return pacing
	case next == job.Seal:
		return sealing
	case isFlush:
		return flushed
	}
	return compacted
}

// leaveJob lets a worker have no job any more.
func (s *Store) leaveJob(m *machine) {
	m.task = task{}
	m.at = m.home
	s.tokens.Leave(m.number)
}

// work does the next step of a worker's job; r is the answer, if it goes well.
func (s *Store) work(m *machine, number uint64, r api.Reply) api.Reply {
	if err := m.job.Step(number); err != api.OK {
		return s.failed(err)
	}
	m.at = m.nextPlace()
	return r
}

func (s *Store) makeFile(m *machine) api.Reply {
	return s.work(m, s.takeNumber(), did(api.DidMake))
}

func (s *Store) fill(m *machine) api.Reply { return s.work(m, 0, did(api.DidFill)) }

func (s *Store) seal(m *machine) api.Reply { return s.work(m, 0, did(api.DidSeal)) }

func (s *Store) write(m *machine) api.Reply {
	return s.work(m, 0, api.Reply{Did: api.DidWrite, Wrote: m.job.Size()})
}

// writePaced is a compactor's write: it waits for tokens, and pays for what was laid.
func (s *Store) writePaced(m *machine) api.Reply {
	if !s.tokens.May(m.number) {
		return wait(api.WaitTokens)
	}
	r := s.write(m)
	if r.Did == api.DidWrite {
		s.tokens.Take(m.number, r.Wrote)
	}
	return r
}
