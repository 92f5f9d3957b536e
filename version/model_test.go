package version

import (
	"fmt"
	"math/rand"
	"slices"
	"testing"

	"scree/api"
)

// tab: a table of a hull, with all that a table says of itself.
func tab(n uint64, least, greatest string) api.Table {
	return api.Table{Number: n, Weight: int(n)*10 + 1, Bytes: int(n) + 7, Entries: int(n) % 5, Least: least, Greatest: greatest}
}

func in(level int, n uint64, least, greatest string) api.Placed {
	return api.Placed{Level: level, Table: tab(n, least, greatest)}
}

func out(level int, n uint64) api.Place { return api.Place{Level: level, Number: n} }

func numbers(l []api.Table) []uint64 {
	var ns []uint64
	for _, t := range l {
		ns = append(ns, t.Number)
	}
	return ns
}

// has holds tables to be those of these numbers, in this order.
func has(t *testing.T, what string, l []api.Table, want ...uint64) {
	t.Helper()
	if got := numbers(l); !slices.Equal(got, want) {
		t.Errorf("%s: %v, want %v", what, got, want)
	}
}

// tells holds numbers to be these.
func tells(t *testing.T, what string, got []uint64, want ...uint64) {
	t.Helper()
	if !slices.Equal(got, want) {
		t.Errorf("%s: %v, want %v", what, got, want)
	}
}

// applied holds an edit to be taken, and tells what it answered.
func applied(t *testing.T, s *Set, e api.Edit) []uint64 {
	t.Helper()
	if e.Pointers == nil {
		e.Pointers = make([]string, s.Current().Levels())
	}
	gone, err := s.Apply(e)
	if err != api.OK {
		t.Fatalf("P13.2: %v: error %d", e, err)
	}
	return gone
}

// modelSet: what a set is told to be, written down by looking at every list from its beginning.
type modelSet struct {
	versions []*modelVersion // all that ever were, the current one the last
	pointers []string
}

type modelVersion struct {
	object *Version // what the set answered for it
	levels [][]api.Table
	pins   int
}

func modelNew(s *Set, levels int) *modelSet {
	levels = max(1, min(levels, 5))
	return &modelSet{
		versions: []*modelVersion{{object: s.Current(), levels: make([][]api.Table, levels)}},
		pointers: make([]string, levels),
	}
}

func (m *modelSet) current() *modelVersion { return m.versions[len(m.versions)-1] }

func (v *modelVersion) stands(n uint64) bool {
	return slices.Contains(numbers(slices.Concat(v.levels...)), n)
}

// wanted: whether the current version or a pinned one has a number.
func (m *modelSet) wanted(n uint64) bool {
	for i, v := range m.versions {
		if (i == len(m.versions)-1 || v.pins > 0) && v.stands(n) {
			return true
		}
	}
	return false
}

func (m *modelSet) gone(v *modelVersion) []uint64 {
	var ns []uint64
	for _, n := range numbers(slices.Concat(v.levels...)) {
		if !m.wanted(n) {
			ns = append(ns, n)
		}
	}
	slices.Sort(ns)
	return ns
}

func overlap(a, b api.Table) bool { return !(a.Greatest < b.Least) && !(b.Greatest < a.Least) }

// modelNext: the levels behind an edit, or its error.
func modelNext(levels [][]api.Table, e api.Edit) ([][]api.Table, api.Errno) {
	if len(e.Pointers) != len(levels) {
		return nil, api.ErrVersionLevel
	}
	next := make([][]api.Table, len(levels))
	for i := range levels {
		next[i] = slices.Clone(levels[i])
	}
	for _, p := range e.Out {
		if p.Level < 0 || p.Level >= len(next) {
			return nil, api.ErrVersionLevel
		}
		at := slices.Index(numbers(next[p.Level]), p.Number)
		if at < 0 {
			return nil, api.ErrVersionNone
		}
		next[p.Level] = slices.Concat(next[p.Level][:at], next[p.Level][at+1:])
	}
	for _, p := range e.In {
		if p.Level < 0 || p.Level >= len(next) {
			return nil, api.ErrVersionLevel
		}
		if slices.Contains(numbers(slices.Concat(next...)), p.Table.Number) {
			return nil, api.ErrVersionTwice
		}
		if p.Table.Greatest < p.Table.Least {
			return nil, api.ErrVersionOrder
		}
		next[p.Level] = modelLaid(next[p.Level], p)
	}
	for _, l := range next[1:] {
		for i := range l {
			for j := range i {
				if overlap(l[i], l[j]) {
					return nil, api.ErrVersionOrder
				}
			}
		}
	}
	return next, api.OK
}

// modelLaid: a level's tables with one more: in level 0 at the end, else ahead of the first of a greater least key.
func modelLaid(l []api.Table, p api.Placed) []api.Table {
	at := slices.IndexFunc(l, func(t api.Table) bool { return t.Least > p.Table.Least })
	if p.Level == 0 || at < 0 {
		at = len(l)
	}
	return slices.Concat(l[:at], []api.Table{p.Table}, l[at:])
}

func (m *modelSet) apply(e api.Edit) ([]uint64, api.Errno) {
	before := m.current()
	next, err := modelNext(before.levels, e)
	if err != api.OK {
		return nil, err
	}
	m.versions = append(m.versions, &modelVersion{levels: next})
	m.pointers = slices.Clone(e.Pointers)
	return m.gone(before), api.OK
}

func (m *modelSet) unpin(v *modelVersion) []uint64 {
	if v.pins == 0 {
		return nil
	}
	v.pins--
	return m.gone(v)
}

// sameVersion holds a version to answer as its model does.
func sameVersion(t *testing.T, what string, v *Version, want [][]api.Table) {
	t.Helper()
	if v.Levels() != len(want) {
		t.Fatalf("P13.4: %s: %d levels, want %d", what, v.Levels(), len(want))
	}
	for level := -1; level <= len(want); level++ {
		var l []api.Table
		if level >= 0 && level < len(want) {
			l = want[level]
		}
		sum := 0
		for _, table := range l {
			sum += table.Weight
		}
		if got := v.Tables(level); !slices.Equal(got, l) {
			t.Fatalf("P13.4: %s: tables of level %d: %v, want %v", what, level, got, l)
		}
		if got := v.Weight(level); got != sum {
			t.Fatalf("P13.4: %s: weight of level %d: %d, want %d", what, level, got, sum)
		}
	}
}

// asked holds what a version answers of keys to be what its model says.
func asked(t *testing.T, what string, v *Version, levels [][]api.Table, from, to string) {
	t.Helper()
	for level, l := range levels {
		var over, held []api.Table
		for _, table := range l {
			if !(table.Greatest < from) && !(table.Least > to) {
				over = append(over, table)
			}
			if !(table.Least > from) && !(table.Greatest < from) && level == 0 {
				held = append([]api.Table{table}, held...)
			} else if !(table.Least > from) && !(table.Greatest < from) {
				held = append(held, table)
			}
		}
		if got := v.Overlap(level, from, to); !slices.Equal(got, over) {
			t.Fatalf("P13.4: %s: Overlap(%d, %q, %q): %v, want %v", what, level, from, to, got, over)
		}
		if got := v.Holds(level, from); !slices.Equal(got, held) || level > 0 && len(got) > 1 {
			t.Fatalf("P13.4: %s: Holds(%d, %q): %v, want %v", what, level, from, got, held)
		}
	}
}

// someKey: short keys of few bytes, so that they often meet; among them the empty one and those that begin others.
func someKey(r *rand.Rand) string {
	b := make([]byte, r.Intn(3))
	for i := range b {
		b[i] = "\x00abc\xff"[r.Intn(5)]
	}
	return string(b)
}

// someTable: mostly with a hull, at times without one.
func someTable(r *rand.Rand, n uint64) api.Table {
	least, greatest := someKey(r), someKey(r)
	if least > greatest && r.Intn(10) > 0 {
		least, greatest = greatest, least
	}
	return api.Table{Number: n, Weight: r.Intn(1000) - 100, Bytes: r.Intn(9), Entries: r.Intn(9), Least: least, Greatest: greatest}
}

// someEdit: an edit that fits, more often than not; next tells a number that never was.
func someEdit(r *rand.Rand, levels [][]api.Table, next func() uint64) api.Edit {
	e := api.Edit{Log: r.Uint64(), Next: r.Uint64(), Seq: r.Uint64(), Pointers: somePointers(r, len(levels))}
	var there []api.Placed
	for level, l := range levels {
		for _, table := range l {
			there = append(there, api.Placed{Level: level, Table: table})
		}
	}
	r.Shuffle(len(there), func(i, j int) { there[i], there[j] = there[j], there[i] })
	for _, p := range there[:r.Intn(len(there)+1)/(1+r.Intn(3))] {
		e.Out = append(e.Out, out(p.Level, p.Table.Number))
		if r.Intn(4) == 0 { // a move, or the same number anew
			e.In = append(e.In, api.Placed{Level: r.Intn(len(levels)), Table: someTable(r, p.Table.Number)})
		}
	}
	for range r.Intn(3) {
		e.In = append(e.In, api.Placed{Level: r.Intn(len(levels)), Table: someTable(r, next())})
	}
	if r.Intn(5) == 0 {
		spoil(r, &e, len(levels), there)
	}
	return e
}

func somePointers(r *rand.Rand, n int) []string {
	l := make([]string, n)
	for i := range l {
		l[i] = someKey(r)
	}
	return l
}

// spoil makes a thing of an edit wrong, or two.
func spoil(r *rand.Rand, e *api.Edit, levels int, there []api.Placed) {
	for range 1 + r.Intn(2) {
		wrong := []int{-1, levels, levels + 1, -1 << 63, 1<<63 - 1}[r.Intn(5)]
		switch r.Intn(6) {
		case 0:
			e.Pointers = somePointers(r, r.Intn(levels+2))
		case 1:
			e.Out = slices.Insert(e.Out, r.Intn(len(e.Out)+1), out(wrong, uint64(r.Intn(20))))
		case 2:
			e.Out = slices.Insert(e.Out, r.Intn(len(e.Out)+1), out(r.Intn(levels), uint64(r.Intn(20))))
		case 3:
			e.In = slices.Insert(e.In, r.Intn(len(e.In)+1), api.Placed{Level: wrong, Table: someTable(r, uint64(r.Intn(20)))})
		case 4:
			if len(there) > 0 {
				e.In = slices.Insert(e.In, r.Intn(len(e.In)+1), there[r.Intn(len(there))])
			}
		case 5:
			e.In = append(e.In, e.In...)
		}
	}
}

// copied: an edit with lists of its own.
func copied(e api.Edit) api.Edit {
	e.Out, e.In, e.Pointers = slices.Clone(e.Out), slices.Clone(e.In), slices.Clone(e.Pointers)
	return e
}

func sameEdit(a, b api.Edit) bool { return fmt.Sprintf("%#v", a) == fmt.Sprintf("%#v", b) }
