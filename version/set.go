package version

import (
	"slices"

	"scree/api"
)

// Set: the current version and those that are pinned.
type Set struct {
	current  *Version
	pins     []pinned // each version once
	pointers []string
	count    map[uint64]int // by its number how often a table stood in the current version and in the pinned ones, when they were last counted
}

// pinned: a version that somebody has, and how often.
type pinned struct {
	version *Version
	times   int
}

// New makes a set with an empty version of so many levels.
func New(levels int) *Set {
	n := min(max(levels, 1), api.MaxLevels)
	return &Set{
		current:  &Version{levels: make([][]api.Table, n)},
		pointers: make([]string, n),
		count:    make(map[uint64]int),
	}
}

// Apply makes the next version: the tables that no version has any more.
func (s *Set) Apply(e api.Edit) ([]uint64, api.Errno) {
	before := s.current
	if len(e.Pointers) != before.Levels() {
		return nil, api.ErrVersionLevel
	}
	next, err := before.edited(e)
	if err != api.OK {
		return nil, err
	}
	s.current = next
	s.pointers = slices.Clone(e.Pointers)
	return s.gone(before), api.OK
}

// Current tells the current version.
func (s *Set) Current() *Version { return s.current }

// Pin pins the current version.
func (s *Set) Pin() *Version {
	if i := s.find(s.current); i >= 0 {
		s.pins[i].times++
	} else {
		s.pins = append(s.pins, pinned{version: s.current, times: 1})
	}
	return s.current
}

// Unpin takes a pin away: the tables that no version has any more.
func (s *Set) Unpin(v *Version) []uint64 {
	i := s.find(v)
	if i < 0 {
		return nil
	}
	s.pins[i].times--
	if s.pins[i].times == 0 {
		s.pins = slices.Delete(s.pins, i, i+1)
	}
	return s.gone(v)
}

// Pointers tells the pointers by level.
func (s *Set) Pointers() []string { return slices.Clone(s.pointers) }

// find tells where a version stands among the pinned ones; below 0, if it isn't pinned.
func (s *Set) find(v *Version) int {
	return slices.IndexFunc(s.pins, func(p pinned) bool { return p.version == v })
}

// gone tells, rising, the tables of v that no version has any more. A version that stands itself has them all: so that a pin that goes while its version is current costs nothing, nothing is counted then.
func (s *Set) gone(v *Version) []uint64 {
	if v == s.current || s.find(v) >= 0 {
		return nil
	}
	s.recount()
	var out []uint64
	for _, l := range v.levels {
		for _, t := range l {
			if s.count[t.Number] == 0 {
				out = append(out, t.Number)
			}
		}
	}
	slices.Sort(out)
	return out
}

// recount counts anew, rather than keeping the numbers up by what came and went: what stands is all that tells.
func (s *Set) recount() {
	clear(s.count)
	s.countTables(s.current)
	for _, p := range s.pins {
		s.countTables(p.version)
	}
}

func (s *Set) countTables(v *Version) {
	for _, l := range v.levels {
		for _, t := range l {
			s.count[t.Number]++
		}
	}
}
