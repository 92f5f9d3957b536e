package store

import (
	"slices"

	"scree/api"
	"scree/log"
	"scree/manifest"
)

// group: writes and Syncs that are laid down and seen together. The zero one: nobody leads.
type group struct {
	members  []*machine    // in the order of the queue, the leader first
	batches  [][]api.Write // those of its writes that aren't in the memtable yet
	next     uint64        // the number of their first entry
	sync     bool          // one of them asks for it
	appended bool          // its record lies in the log
}

// admit lets the first of the admission line go on to the queue, if nothing hinders its write.
func (s *Store) admit(m *machine) api.Reply {
	if first, _ := s.line.First(); first != m.number {
		return wait(api.WaitTurn)
	}
	if len(m.batch) > 0 {
		if why := s.hindrance(m.weight); why != 0 {
			return wait(why)
		}
		if s.isSlow() {
			s.slow.Take(m.number, s.slowCharge(m.weight))
		}
	}
	s.line.Leave(m.number)
	s.queue.Join(m.number)
	m.at = inQueue
	return did(api.DidAdmit)
}

// hindrance tells what a write of some weight has to wait for; 0: nothing.
func (s *Store) hindrance(weight int) int {
	switch {
	case s.pending()+weight > s.c.MaxDebt:
		return api.WaitPending
	case s.debt() >= s.c.DebtStop:
		return api.WaitDebt
	case s.isStopped():
		return api.WaitStop
	case s.isSlow() && s.slow.Tokens() < s.slowCharge(weight):
		return api.WaitSlow
	}
	return 0
}

// isStopped tells whether level 0 has so many tables that none may be put to them.
func (s *Store) isStopped() bool { return s.countTables(0) >= s.c.L0Stop }

// isSlow tells whether level 0 has so many tables that writes cost slow tokens.
func (s *Store) isSlow() bool { return s.countTables(0) >= s.c.L0Slow }

// slowCharge tells how many slow tokens a write costs: never more than there can be.
func (s *Store) slowCharge(weight int) int { return min(weight, s.c.SlowBurst) }

// lead lets the first of the queue lead a group. While one leads it is the first, so that nobody else gets beyond waiting.
func (s *Store) lead(m *machine) api.Reply {
	if first, _ := s.queue.First(); first != m.number {
		return wait(api.WaitLead)
	}
	s.group = s.gather(max(s.c.MaxGroup, m.weight))
	m.at = syncing
	if len(s.group.batches) > 0 {
		m.at = appending
	}
	return did(api.DidLead)
}

// gather tells the group of the first ones of the queue, who weigh at most so much together.
func (s *Store) gather(most int) group {
	g := group{next: s.published + 1}
	weight := 0
	for _, number := range s.queue.All() {
		m := s.machines[number]
		weight += m.weight
		if weight > most {
			break
		}
		g.members = append(g.members, m)
		g.sync = g.sync || m.sync
		if len(m.batch) > 0 {
			g.batches = append(g.batches, m.batch)
		}
	}
	return g
}

// makeRoom lets the group's record be laid, or makes a memtable that isn't full.
func (s *Store) makeRoom(m *machine) api.Reply {
	if s.active.Weight() < s.c.MemBytes {
		return s.appendRecord(m)
	}
	if len(s.frozen) >= s.c.MaxImm {
		return wait(api.WaitRoom)
	}
	return s.switchMemtable()
}

// switchMemtable freezes the active memtable. Its log is made sure first: what a later log holds must never be there without it.
func (s *Store) switchMemtable() api.Reply {
	number := s.takeNumber()
	err := inTurn(
		func() api.Errno { return s.d.Sync(logName(s.active.log)) },
		func() api.Errno { return s.d.Create(logName(number)) },
		s.d.SyncDir,
	)
	if err != api.OK {
		return s.failGroup(err)
	}
	s.active.Freeze()
	s.frozen = append(s.frozen, s.active)
	s.active = s.newMemtable(number)
	return did(api.DidSwitch)
}

// appendRecord lays the group's record into the log.
func (s *Store) appendRecord(m *machine) api.Reply {
	b := log.Append(s.active.size, log.Put(s.group.next, s.group.batches))
	if err := s.d.Append(logName(s.active.log), b); err != api.OK {
		return s.failGroup(err)
	}
	s.active.size += len(b)
	s.group.appended = true
	m.at = inserting
	if s.group.sync {
		m.at = syncing
	}
	return did(api.DidAppend)
}

// syncLog makes the log sure.
func (s *Store) syncLog(m *machine) api.Reply {
	if err := s.d.Sync(logName(s.active.log)); err != api.OK {
		return s.failGroup(err)
	}
	m.at = s.behindLog()
	return did(api.DidSync)
}

// insert puts the group's next batch into the memtable.
func (s *Store) insert(m *machine) api.Reply {
	batch := s.group.batches[0]
	s.active.Add(s.group.next, batch) // it was checked when it was submitted
	s.group.batches = s.group.batches[1:]
	s.group.next += uint64(len(batch))
	m.at = s.behindLog()
	return did(api.DidInsert)
}

// behindLog tells what the leader of a group is at that has nothing to do with the log any more.
func (s *Store) behindLog() place {
	if len(s.group.batches) > 0 {
		return inserting
	}
	return publishing
}

// publish lets the group be seen.
func (s *Store) publish(*machine) api.Reply {
	s.published = s.group.next - 1
	s.settleGroup(api.OK)
	return did(api.DidPublish)
}

// settleGroup puts down what the group's writes and Syncs are told; nobody leads any more.
func (s *Store) settleGroup(err api.Errno) {
	for _, m := range s.group.members {
		s.queue.Leave(m.number)
		m.err = err
		m.at = settled
	}
	s.group = group{}
}

// failGroup answers a call of the disk that failed for a leader.
func (s *Store) failGroup(err api.Errno) api.Reply {
	s.settleGroup(api.ErrWrite)
	return s.failed(err)
}

// tell tells a client what its write or Sync was settled with.
func (s *Store) tell(m *machine) api.Reply { return m.done(api.Reply{Err: m.err}) }

// leaveLine is the step of who stands in the admission line in read-only.
func (s *Store) leaveLine(m *machine) api.Reply {
	s.line.Leave(m.number)
	return m.done(api.Reply{Err: api.ErrReadOnly})
}

// leaveQueue is the step of who stands in the queue in read-only, and doesn't lead. A group whose record lies in the log is its leader's business.
func (s *Store) leaveQueue(m *machine) api.Reply {
	at := slices.Index(s.group.members, m)
	if at >= 0 && s.group.appended {
		return wait(api.WaitLead)
	}
	if at >= 0 {
		s.group.members = slices.Delete(s.group.members, at, at+1)
	}
	s.queue.Leave(m.number)
	return m.done(api.Reply{Err: api.ErrReadOnly})
}

// refuseGroup is a leader's step in read-only, where it would need the disk.
func (s *Store) refuseGroup(m *machine) api.Reply {
	s.settleGroup(api.ErrReadOnly)
	return s.tell(m)
}

// publishAppended is a leader's last step in read-only: what no log has, a group of Syncs, isn't published then.
func (s *Store) publishAppended(m *machine) api.Reply {
	if !s.group.appended {
		return s.refuseGroup(m)
	}
	return s.publish(m)
}

func logName(number uint64) string { return manifest.Name('l', number) }
