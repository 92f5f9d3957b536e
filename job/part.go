package job

import (
	"iter"

	"scree/api"
	"scree/ikey"
	"scree/mem"
	"scree/merge"
	"scree/table"
)

// readAhead: how many keys are read at once. The sources are begun anew each time, since a walk through them can't be left open from step to step.
const readAhead = 64

// source gives entries, in their order, from a key on.
type source func(from string) iter.Seq[api.Entry]

// part: entries that are taken key by key, and become tables of one level.
type part struct {
	sources []source
	from    string                // the keys that aren't read yet begin here
	end     string                // all keys are below this one; empty: there is no end
	below   func(key string) bool // which deletes stay
	level   int
	ahead   [][]api.Entry // the entries of the next keys; none, only if no key is left
}

// partsOf tells the parts of a compaction: what goes down, and what stays because of the cut.
func partsOf(j api.Job, tables func(number uint64) *table.Table, below func(key string) bool) []part {
	var down []source
	for _, l := range [2][]api.Table{j.Upper, j.Lower} {
		for _, t := range l {
			down = append(down, tables(t.Number).From)
		}
	}
	parts := []part{{sources: down, end: j.Cut, below: below, level: j.Level + 1}}
	if j.Cut != "" && len(j.Upper) > 0 {
		parts = append(parts, part{sources: down[:1], from: j.Cut, below: always, level: j.Level})
	}
	return parts
}

// pointerOf tells the greatest key of the upper table that goes down. Level 0 has no pointer: all its tables go down together.
func pointerOf(j api.Job, tables func(number uint64) *table.Table) string {
	if j.Level < 1 || len(j.Upper) == 0 {
		return ""
	}
	greatest := ""
	for e := range tables(j.Upper[0].Number).From("") {
		if j.Cut != "" && e.Key >= j.Cut {
			break
		}
		greatest = e.Key
	}
	return greatest
}

// ofMemtable tells a memtable as a source: all entries of each key, as what was taken is weighed by all of them.
func ofMemtable(t *mem.Table) source {
	return func(from string) iter.Seq[api.Entry] {
		return func(yield func(api.Entry) bool) {
			for e := range t.All() {
				if e.Key >= from && !yield(e) {
					return
				}
			}
		}
	}
}

// always lets every delete stay.
func always(string) bool { return true }

// isThrough tells whether no key is left.
func (p *part) isThrough() bool { return len(p.ahead) == 0 }

// take takes the next key: all of its entries, and what they weigh.
func (p *part) take() ([]api.Entry, int) {
	run := p.ahead[0]
	p.ahead = p.ahead[1:]
	if len(p.ahead) == 0 {
		p.readOn()
	}
	weight := 0
	for _, e := range run {
		weight += ikey.Weight(e)
	}
	return run, weight
}

// readOn reads the next keys, if there are any.
func (p *part) readOn() {
	var l []iter.Seq[api.Entry]
	for _, s := range p.sources {
		l = append(l, s(p.from))
	}
	for run := range merge.Keys(l...) {
		key := run[0].Key
		if p.end != "" && key >= p.end {
			break
		}
		p.ahead = append(p.ahead, run)
		p.from = key + "\x00" // the least key above it
		if len(p.ahead) == readAhead {
			break
		}
	}
}
