package store

import (
	"errors"

	"scree/api"
	"scree/manifest"
	"scree/mem"
	"scree/open"
	"scree/pace"
	"scree/pile"
	"scree/table"
	"scree/version"
)

// life: all that is in memory, from the beginning of a coming up to the next fall.
type life struct {
	machines     []*machine
	opener       *open.Opener // nil: no coming up is under way
	up, readOnly bool

	published uint64       // entries above this number are unseen
	active    *memtable    // takes entries
	frozen    []*memtable  // the oldest first
	line      *pile.Line   // the admission line
	queue     *pile.Line   // who is admitted and not settled
	group     group        // the first ones of the queue, if one leads them
	slow      *pace.Bucket // the slow tokens; nobody stands in its line

	set       *version.Set
	tables    map[uint64]*table.Table // those that were read, as long as a version has them
	snapshots map[int]*view
	lastSnap  int

	roots    api.Roots    // of the last edit
	manifest int          // how many bytes the manifest's file has
	nextFile uint64       // the next number of a file
	tokens   *pace.Bucket // what compactions wait for
}

// memtable: a memtable and its log.
type memtable struct {
	*mem.Table
	log  uint64 // its number
	size int    // how many bytes it has
}

// goDown ends a life.
func (s *Store) goDown() {
	l := machinesOf(s.c)
	l[len(l)-1].at = opening
	s.life = life{machines: l}
}

// goUp begins a life with what the opener came to.
func (s *Store) goUp(set *version.Set, roots api.Roots) {
	s.life = life{
		machines:  machinesOf(s.c),
		up:        true,
		published: roots.Seq,
		active:    s.newMemtable(roots.Log),
		line:      pile.NewLine(),
		queue:     pile.NewLine(),
		slow:      pace.NewBucket(s.c.SlowRate, s.c.SlowBurst),
		set:       set,
		tables:    make(map[uint64]*table.Table),
		snapshots: make(map[int]*view),
		roots:     roots,
		manifest:  wholeBytes(set, roots),
		nextFile:  roots.Next,
		tokens:    pace.NewBucket(s.c.Rate, s.c.Burst),
	}
	for _, m := range s.machines {
		m.at = m.home
	}
}

func (s *Store) newMemtable(log uint64) *memtable {
	return &memtable{Table: mem.New(s.draws), log: log}
}

// wholeBytes tells how many bytes a manifest has that holds just a whole version.
func wholeBytes(set *version.Set, roots api.Roots) int {
	return len(manifest.Bytes(0, manifest.Whole(set, roots)))
}

// comeUp is the opener's step.
func (s *Store) comeUp(*machine) api.Reply {
	if s.opener == nil {
		s.opener = open.New(s.c, s.d)
	}
	up, err := s.opener.Step()
	switch {
	case up:
		s.goUp(s.opener.State())
		return did(api.DidUp)
	case err == api.OK:
		return did(api.DidOpen)
	}
	// The next coming up begins anew, whatever ended this one.
	s.goDown()
	if errors.Is(err, api.ErrDiskDown) {
		return fallen()
	}
	return refused(err)
}

// failed answers a call of the disk that changes something and went wrong: the life ends, or goes on without writing.
func (s *Store) failed(err api.Errno) api.Reply {
	if errors.Is(err, api.ErrDiskDown) {
		s.goDown()
		return fallen()
	}
	s.readOnly = true
	for _, m := range s.workers() {
		s.leaveJob(m)
	}
	return api.Reply{Did: api.DidReadOnly, Err: err}
}

func fallen() api.Reply { return api.Reply{Did: api.DidFall, Err: api.ErrDiskDown} }

// takeNumber gives out the next number of a file.
func (s *Store) takeNumber() uint64 {
	number := s.nextFile
	s.nextFile++
	return number
}

// inTurn does one call of the disk after the other, up to the first that answers an error.
func inTurn(calls ...func() api.Errno) api.Errno {
	for _, call := range calls {
		if err := call(); err != api.OK {
			return err
		}
	}
	return api.OK
}
