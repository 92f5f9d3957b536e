package store

import (
	"slices"

	"scree/api"
	"scree/pace"
)

// Status tells where it stands.
func (s *Store) Status() api.Status {
	if !s.up {
		return api.Status{Clock: s.clock}
	}
	return api.Status{
		Up:        true,
		ReadOnly:  s.readOnly,
		Clock:     s.clock,
		Seq:       s.published,
		Load:      s.load(),
		Debt:      s.debt(),
		Pending:   s.pending(),
		Tokens:    s.tokens.Tokens(),
		Slow:      s.slow.Tokens(),
		Active:    s.active.Weight(),
		Frozen:    len(s.frozen),
		Snapshots: len(s.snapshots),
		Pins:      s.pins(),
		Line:      s.line.All(),
		Queue:     s.queue.All(),
		TokenLine: s.tokens.Line(),
		Jobs:      s.jobs(),
	}
}

// Levels tells the current version's tables, by level.
func (s *Store) Levels() [][]api.Table {
	if !s.up {
		return nil
	}
	var l [][]api.Table
	v := s.set.Current()
	for level := range v.Levels() {
		l = append(l, v.Tables(level))
	}
	return l
}

// load tells what all weighs that isn't in the last level.
func (s *Store) load() int {
	sum := s.active.Weight()
	for _, t := range s.frozen {
		sum += t.Weight()
	}
	for level := range s.c.Levels - 1 {
		sum += s.set.Current().Weight(level)
	}
	return sum
}

// debt tells how much of the load is above what the levels may hold.
func (s *Store) debt() int { return max(0, s.load()-pace.LimitSum(s.c)) }

// pending tells what the batches weigh that are admitted and not settled: those of the queue.
func (s *Store) pending() int {
	sum := 0
	for _, number := range s.queue.All() {
		sum += s.machines[number].weight
	}
	return sum
}

func (s *Store) countTables(level int) int { return len(s.set.Current().Tables(level)) }

// pins tells how many reads have begun and aren't done.
func (s *Store) pins() int {
	n := 0
	for _, m := range s.clients() {
		if m.view != nil {
			n++
		}
	}
	return n
}

// jobs tells what the workers have.
func (s *Store) jobs() []api.Job {
	var l []api.Job
	for _, m := range s.workers() {
		switch {
		case m.at == m.home:
		case m.memory != nil:
			l = append(l, api.Job{Level: -1})
		default:
			j := m.picked
			j.Upper, j.Lower = slices.Clone(j.Upper), slices.Clone(j.Lower)
			l = append(l, j)
		}
	}
	return l
}
