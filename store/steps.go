package store

import "scree/api"

// place: what a machine is at.
type place int

const (
	resting place = iota // nothing to do: a client without an operation, the opener of a store that is up, all but the opener of one that isn't
	opening              // the opener of a store that isn't up

	settled    // a client whose write or Sync is to be told
	inLine     // one that waits to be admitted
	inQueue    // one that was admitted, and doesn't lead
	appending  // a leader whose group has writes that aren't in the log
	syncing    // one whose group wants the log to be sure
	inserting  // one whose group has batches that aren't in the memtable
	publishing // one whose group isn't seen
	getting    // a Get, ahead of its first step
	looking    // a Get behind it
	scanning   // a Scan, ahead of its first step
	taking     // a Scan behind it
	snapping   // a Snap
	releasing  // a Release

	freeFlusher   // a worker without a job
	freeCompactor // the same
	making        // a worker's table has no file yet
	filling       // entries are to be taken
	writing       // a flush has bytes to lay
	pacing        // a compaction has bytes to lay: that costs tokens
	sealing       // a table is to be made sure
	flushed       // a flush is to be installed
	compacted     // a compaction, or a move, is to be installed

	places
)

// step does what a machine does next.
type step func(s *Store, m *machine) api.Reply

// row: the step of a place, and the one that is done instead once the store is read-only.
type row struct {
	next     step
	readOnly step
}

// steps makes the table of all machines' steps.
func steps() [places]row {
	idle := row{(*Store).idle, (*Store).idle}
	// In read-only workers have no job.
	working := func(next step) row { return row{next, (*Store).idle} }
	// Neither reads nor the telling of what is settled change anything that a fault could hinder.
	always := func(next step) row { return row{next, next} }
	return [places]row{
		resting: idle,
		opening: always((*Store).comeUp),

		settled:    always((*Store).tell),
		inLine:     {(*Store).admit, (*Store).leaveLine},
		inQueue:    {(*Store).lead, (*Store).leaveQueue},
		appending:  {(*Store).makeRoom, (*Store).refuseGroup},
		syncing:    {(*Store).syncLog, (*Store).refuseGroup},
		inserting:  always((*Store).insert),
		publishing: {(*Store).publish, (*Store).publishAppended},
		getting:    always((*Store).beginGet),
		looking:    always((*Store).goOnGet),
		scanning:   always((*Store).beginScan),
		taking:     always((*Store).goOnScan),
		snapping:   always((*Store).makeSnapshot),
		releasing:  always((*Store).releaseSnapshot),

		freeFlusher:   working((*Store).claimFlush),
		freeCompactor: working((*Store).claimCompaction),
		making:        working((*Store).makeFile),
		filling:       working((*Store).fill),
		writing:       working((*Store).write),
		pacing:        working((*Store).writePaced),
		sealing:       working((*Store).seal),
		flushed:       working((*Store).installFlush),
		compacted:     working((*Store).installCompaction),
	}
}

// idle is the step of who has nothing to do.
func (s *Store) idle(*machine) api.Reply { return did(api.DidIdle) }

func did(what int) api.Reply { return api.Reply{Did: what} }

func wait(why int) api.Reply { return api.Reply{Did: api.DidWait, Why: why} }

func refused(err api.Errno) api.Reply { return api.Reply{Did: api.DidRefused, Err: err} }
