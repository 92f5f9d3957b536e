package store

import (
	"scree/api"
	"scree/job"
)

// machine: one that is stepped, and what it is at.
type machine struct {
	number    int
	home      place // where it is with nothing to do, while the store is up
	at        place
	operation // a client's
	task      // a worker's
}

// operation: what a client has under way. The zero one: nothing.
type operation struct {
	batch  []api.Write // of a write; a Sync has none
	sync   bool        // the log is to be made sure
	weight int         // of the batch
	err    api.Errno   // what it was settled with

	key   string      // of a Get; the next one of a Scan
	to    string      // a Scan's end; empty: it has none
	most  int         // how many pairs a Scan wants
	pairs []api.Pair  // those that it has
	snap  int         // a read's or a Release's
	view  *view       // what a read sees, from its first step on
	left  []api.Table // those that a Get hasn't asked yet
}

// task: what a worker has to do. The zero one: nothing.
type task struct {
	job    *job.Job  // nil: there is nothing to be laid down, as of a move
	memory *memtable // what a flush makes a table of
	picked api.Job   // what a compaction has
}

// machinesOf makes all machines, in their order, all of them at rest.
func machinesOf(c api.Config) []*machine {
	var l []*machine
	add := func(n int, home place) {
		for range n {
			l = append(l, &machine{number: len(l), home: home})
		}
	}
	add(c.Clients, resting)
	add(c.Flushers, freeFlusher)
	add(c.Compactors, freeCompactor)
	add(1, resting)
	return l
}

// clients tells the machines that are clients.
func (s *Store) clients() []*machine { return s.machines[:s.c.Clients] }

// workers tells the flushers and the compactors.
func (s *Store) workers() []*machine { return s.machines[s.c.Clients : len(s.machines)-1] }

// done ends a client's operation.
func (m *machine) done(r api.Reply) api.Reply {
	m.operation = operation{}
	m.at = resting
	r.Did = api.DidDone
	return r
}
