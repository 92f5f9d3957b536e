package store

import (
	"iter"
	"slices"

	"scree/api"
	"scree/ikey"
	"scree/manifest"
	"scree/mem"
	"scree/merge"
	"scree/sieve"
	"scree/table"
	"scree/version"
)

// view: what a read sees. A snapshot shares its own with the reads of it, so the version is pinned once for all of them.
type view struct {
	number    uint64       // entries above it are unseen
	memtables []*mem.Table // the newest first
	version   *version.Version
	users     int
}

// newView tells what is seen now.
func (s *Store) newView() *view {
	v := &view{number: s.published, memtables: []*mem.Table{s.active.Table}, version: s.set.Pin(), users: 1}
	for _, t := range slices.Backward(s.frozen) {
		v.memtables = append(v.memtables, t.Table)
	}
	return v
}

// pin notes what a read sees; false: its snapshot is out no more.
func (s *Store) pin(m *machine) bool {
	if m.snap == 0 {
		m.view = s.newView()
		return true
	}
	m.view = s.snapshots[m.snap]
	if m.view == nil {
		return false
	}
	m.view.users++
	return true
}

// unpin lets go of a view. Should a table's file not be deleted, that is the store's business, and not that of who reads.
func (s *Store) unpin(v *view) {
	v.users--
	if v.users > 0 {
		return
	}
	if err := s.deleteTables(s.set.Unpin(v.version)); err != api.OK {
		s.failed(err)
	}
}

// deleteTables deletes what no version has any more.
func (s *Store) deleteTables(numbers []uint64) api.Errno {
	for _, number := range numbers {
		delete(s.tables, number)
	}
	for _, number := range numbers {
		if err := s.d.Delete(tableName(number)); err != api.OK {
			return err
		}
	}
	return api.OK
}

// table tells a table of a version. The opener, or the job that made it, has seen to it that it can be read.
func (s *Store) table(number uint64) *table.Table {
	if t := s.tables[number]; t != nil {
		return t
	}
	b, _ := s.d.Read(tableName(number))
	t, _ := table.Open(b)
	s.tables[number] = t
	return t
}

func tableName(number uint64) string { return manifest.Name('t', number) }

// finish ends a read.
func (s *Store) finish(m *machine, r api.Reply) api.Reply {
	seen := m.view
	r = m.done(r)
	s.unpin(seen)
	return r
}

// noSnapshot ends an operation whose snapshot is out no more.
func noSnapshot(m *machine) api.Reply { return m.done(api.Reply{Err: api.ErrSnap}) }

// beginGet is a Get's first step: the memtables are asked.
func (s *Store) beginGet(m *machine) api.Reply {
	if !s.pin(m) {
		return noSnapshot(m)
	}
	for _, t := range m.view.memtables {
		if e, ok := t.Get(m.key, m.view.number); ok {
			return s.finish(m, answer(e))
		}
	}
	for level := range m.view.version.Levels() {
		m.left = append(m.left, m.view.version.Holds(level, m.key)...)
	}
	m.at = looking
	return did(api.DidPin)
}

// goOnGet asks the next table that may hold the key.
func (s *Store) goOnGet(m *machine) api.Reply {
	if len(m.left) == 0 {
		return s.finish(m, api.Reply{})
	}
	e, ok := s.table(m.left[0].Number).Get(m.key)
	m.left = m.left[1:]
	switch {
	case ok:
		return s.finish(m, answer(e))
	case len(m.left) == 0:
		return s.finish(m, api.Reply{})
	}
	return did(api.DidLook)
}

// answer tells what a Get is told that came upon an entry.
func answer(e api.Entry) api.Reply {
	if e.Del {
		return api.Reply{}
	}
	return api.Reply{Found: true, Val: e.Val}
}

// beginScan is a Scan's first step.
func (s *Store) beginScan(m *machine) api.Reply {
	if !s.pin(m) {
		return noSnapshot(m)
	}
	m.at = taking
	return did(api.DidPin)
}

// goOnScan takes keys till the Scan is done, or enough was taken for one step.
func (s *Store) goOnScan(m *machine) api.Reply {
	taken := 0
	for run := range merge.Keys(s.sources(m)...) {
		key := run[0].Key
		if m.to != "" && key >= m.to {
			break
		}
		if taken >= s.c.MaxChunk {
			m.key = key
			return did(api.DidLook)
		}
		for _, e := range run {
			taken += ikey.Weight(e)
		}
		if e, stays := sieve.Pick(run, nothingBelow); stays {
			m.pairs = append(m.pairs, api.Pair{Key: key, Val: e.Val})
		}
		if len(m.pairs) == m.most {
			break
		}
	}
	return s.finish(m, api.Reply{Pairs: m.pairs})
}

// sources tells what a Scan goes through, from its next key on: of two entries with one number that of the earlier source counts.
func (s *Store) sources(m *machine) []iter.Seq[api.Entry] {
	var l []iter.Seq[api.Entry]
	for _, t := range m.view.memtables {
		l = append(l, t.From(m.key, m.view.number))
	}
	for level := range m.view.version.Levels() {
		tables := m.view.version.Tables(level)
		if level == 0 {
			slices.Reverse(tables)
		}
		for _, t := range tables {
			l = append(l, s.table(t.Number).From(m.key))
		}
	}
	return l
}

// nothingBelow: who reads sees all there is, so that a delete hides nothing further.
func nothingBelow(string) bool { return false }

// makeSnapshot is a Snap's step.
func (s *Store) makeSnapshot(m *machine) api.Reply {
	if len(s.snapshots) >= s.c.Snapshots {
		return m.done(api.Reply{Err: api.ErrSnaps})
	}
	s.lastSnap++
	s.snapshots[s.lastSnap] = s.newView()
	return m.done(api.Reply{Snap: s.lastSnap})
}

// releaseSnapshot is a Release's step.
func (s *Store) releaseSnapshot(m *machine) api.Reply {
	seen := s.snapshots[m.snap]
	if seen == nil {
		return noSnapshot(m)
	}
	delete(s.snapshots, m.snap)
	r := m.done(api.Reply{})
	s.unpin(seen)
	return r
}
