package job

import (
	"fmt"
	"math"
	"math/rand"
	"slices"
	"sort"
	"testing"

	"scree/api"
	"scree/disk"
	"scree/ikey"
	"scree/table"
)

// model: what the chapter says of a job, over plain lists, and over a disk of its own.
type model struct {
	c       api.Config
	d       *disk.Disk
	isFlush bool
	parts   []modelPart
	at      int // which of them is under way
	maker   *table.Maker
	ended   bool
	made    bool
	name    string
	number  uint64
	buffer  []byte
	out     []api.Placed
	pointer string
	isOver  bool
}

type modelPart struct {
	level int
	stays func(l []api.Entry) []api.Entry // of a key's entries, in their order
	keys  [][]api.Entry
}

func newModel(in input, d *disk.Disk) *model {
	m := &model{c: in.c, d: d, isFlush: in.memtable != nil}
	if m.c.MaxChunk < 1 {
		m.c.MaxChunk = 1
	}
	if m.isFlush {
		m.parts = []modelPart{{stays: newestOf, keys: keysOf(in.batches)}}
		return m
	}
	first := modelPart{level: in.job.Level + 1, stays: func(l []api.Entry) []api.Entry {
		return slices.DeleteFunc(newestOf(l), func(e api.Entry) bool { return e.Del && !in.below(e.Key) })
	}}
	var down []api.Entry
	for _, x := range append(slices.Clone(in.job.Upper), in.job.Lower...) {
		for _, e := range in.entries[x.Number] {
			if in.job.Cut == "" || e.Key < in.job.Cut {
				down = append(down, e)
			}
		}
	}
	first.keys = keysOf(down)
	m.parts = []modelPart{first}
	if len(in.job.Upper) == 0 {
		return m
	}
	second := modelPart{level: in.job.Level, stays: newestOf}
	var stay []api.Entry
	for _, e := range in.entries[in.job.Upper[0].Number] {
		if in.job.Cut != "" && e.Key >= in.job.Cut {
			stay = append(stay, e)
		} else if in.job.Level >= 1 {
			m.pointer = max(m.pointer, e.Key)
		}
	}
	if in.job.Cut != "" {
		second.keys = keysOf(stay)
		m.parts = append(m.parts, second)
	}
	return m
}

// keysOf: entries key by key, the greatest number first, of one number the first one first.
func keysOf(l []api.Entry) [][]api.Entry {
	l = slices.Clone(l)
	sort.SliceStable(l, func(a, b int) bool {
		return l[a].Key < l[b].Key || l[a].Key == l[b].Key && l[a].Seq > l[b].Seq
	})
	var out [][]api.Entry
	for i, e := range l {
		if i == 0 || l[i-1].Key != e.Key {
			out = append(out, nil)
		}
		out[len(out)-1] = append(out[len(out)-1], e)
	}
	return out
}

func newestOf(l []api.Entry) []api.Entry { return slices.Clone(l[:1]) }

func weightOf(l []api.Entry) int {
	sum := 0
	for _, e := range l {
		sum += ikey.Weight(e)
	}
	return sum
}

func (m *model) next() int {
	has := len(m.buffer)
	switch {
	case m.isOver:
		return Done
	case has >= m.c.MaxChunk || m.ended && has > 0:
		if !m.made {
			return Make
		}
		return Write
	case m.ended:
		return Seal
	}
	for _, p := range m.parts[m.at:] {
		if len(p.keys) > 0 {
			return Fill
		}
	}
	return Done
}

func (m *model) size() int {
	if m.next() != Write {
		return 0
	}
	return min(m.c.MaxChunk, len(m.buffer))
}

func (m *model) step(number uint64) api.Errno {
	err := m.try(number)
	if err != api.OK {
		m.isOver = true
	}
	return err
}

func (m *model) try(number uint64) api.Errno {
	switch m.next() {
	case Make:
		m.made, m.number, m.name = true, number, fmt.Sprintf("t-%012d", number)
		return m.d.Create(m.name)
	case Fill:
		return m.fill()
	case Write:
		n := m.size()
		b := m.buffer[:n]
		m.buffer = m.buffer[n:]
		return m.d.Append(m.name, b)
	case Seal:
		if err := m.d.Sync(m.name); err != api.OK {
			return err
		}
		if err := m.d.SyncDir(); err != api.OK {
			return err
		}
		meta := m.maker.Meta()
		meta.Number = m.number
		m.out = append(m.out, api.Placed{Level: m.parts[m.at].level, Table: meta})
		m.maker, m.ended, m.made = nil, false, false
	}
	return api.OK
}

func (m *model) fill() api.Errno {
	for len(m.parts[m.at].keys) == 0 {
		m.at++
	}
	p := &m.parts[m.at]
	taken := 0
	for {
		l := p.keys[0]
		p.keys = p.keys[1:]
		taken += weightOf(l)
		for _, e := range p.stays(l) {
			if m.maker == nil {
				m.maker = table.NewMaker(m.c)
			}
			b, err := m.maker.Add(e)
			if err != api.OK {
				return err
			}
			m.buffer = append(m.buffer, b...)
		}
		has := m.maker != nil
		if len(p.keys) == 0 || has && !m.isFlush && m.maker.Weight() >= m.c.FileBytes {
			if has {
				b, _ := m.maker.End()
				m.buffer = append(m.buffer, b...)
				m.ended = true
			}
			return api.OK
		}
		if taken >= m.c.MaxChunk {
			return api.OK
		}
	}
}

// meddle does something to a disk, as others may: the same to each that it is given.
func meddle(r *rand.Rand, tables []string, disks ...*disk.Disk) {
	what, name := r.Intn(14), one(r, "x", "y", "t-1", "t-000000000003")
	if len(tables) > 0 && r.Intn(40) == 0 {
		name = one(r, tables...)
	}
	to, many, bytes := one(r, "x", "y", "t-000000000004"), r.Intn(60), r.Intn(30)
	for _, d := range disks {
		switch what {
		case 0, 1, 2:
			d.Create(name)
		case 3, 4:
			d.Append(name, make([]byte, bytes))
		case 5, 6:
			d.Sync(name)
		case 7:
			d.Rename(name, to)
		case 8:
			d.Delete(name)
		case 9, 10:
			d.SyncDir()
		case 11:
			d.Fail(many/4, many%3, bytes)
		case 12:
			d.Arm(many * many * 2)
		case 13:
			if d.Down() {
				d.Fall(many%5, []int{bytes})
			}
		}
	}
}

// sameDisks holds two disks against each other: all files, what is sure of them, and which names are.
func sameDisks(a, b *disk.Disk) bool {
	same := func(a, b api.File) bool {
		return a.Name == b.Name && string(a.Data) == string(b.Data) && a.Sure == b.Sure
	}
	return slices.EqualFunc(a.Files(), b.Files(), same) && slices.EqualFunc(a.Image(0, nil), b.Image(0, nil), same)
}

// together does a job and the model of it to their end, on two disks that are as each other, and holds them against each other at every step; between is called behind each. The answer: how the last step that was one ended, and the model.
func together(t *testing.T, in input, d, other *disk.Disk, number func() uint64, between func(next int, m *model)) (string, *model) {
	t.Helper()
	m, j := newModel(in, other), in.start(d)
	end := "error 0 of 5"
	for i := 0; ; i++ {
		next := m.next()
		if j.Next() != next || j.Size() != m.size() {
			t.Fatalf("P17.4: step %d: %d, %d, want %d, %d\n%+v", i, j.Next(), j.Size(), next, m.size(), in)
		}
		if !slices.Equal(j.Out(), m.out) || j.Pointer() != m.pointer {
			t.Fatalf("P17.6: step %d: %v, %q, want %v, %q\n%+v", i, j.Out(), j.Pointer(), m.out, m.pointer, in)
		}
		n := number()
		want, got := m.step(n), j.Step(n)
		if want != got {
			t.Fatalf("P17.5: step %d, a %d: error %d, want %d\n%+v", i, next, got, want, in)
		}
		// A Write may be one of very many: some of them tell enough.
		if (next != Write || got != api.OK || i%30 == 0) && !sameDisks(d, other) {
			t.Fatalf("P17.5: step %d, a %d: the disks differ\n%+v", i, next, in)
		}
		if next == Done {
			return end, m
		}
		if end = "error 0 of 5"; got != api.OK {
			end = fmt.Sprintf("error %d of %d", int(got), next)
		}
		between(next, m)
	}
}

// enough holds the cases that came up to be the ones that are wanted.
func enough(t *testing.T, seen map[string]int, wanted ...string) {
	t.Helper()
	for _, what := range wanted {
		if seen[what] < 10 {
			t.Errorf("the cases are too few to tell anything: %s: %d", what, seen[what])
		}
	}
}

// TestAgainstModel: all that a job tells, and all that it does to a disk, step by step; others meddle with the disk, which may fail and fall.
func TestAgainstModel(t *testing.T) {
	r := rand.New(rand.NewSource(17))
	seen := map[string]int{}
	for range 6000 {
		d, other := world(t), world(t)
		calm := r.Intn(2) == 0
		n := one(r, uint64(r.Intn(5)), uint64(r.Intn(1000)), 1<<63, 999_999_999_995)
		number := func() uint64 {
			n += uint64(one(r, 1, 1, 1, 5))
			if r.Intn(60) == 0 {
				n = one[uint64](r, 0, 3, math.MaxUint64)
			}
			return n
		}
		end, m := together(t, anyInput(t, r), d, other, number, func(next int, m *model) {
			if !calm && (next != Write || r.Intn(10) == 0) {
				meddle(r, []string{m.name}, d, other)
			}
		})
		seen[end]++
		seen[fmt.Sprintf("tables %d of %d", min(2, len(m.out)), len(m.parts))]++
	}
	enough(t, seen, "error 0 of 5", "error 30 of 1", "error 30 of 3", "error 31 of 1", "error 31 of 3", "error 31 of 4", "error 34 of 3", "error 35 of 1", "error 91 of 2",
		"tables 0 of 1", "tables 1 of 1", "tables 2 of 1", "tables 0 of 2", "tables 1 of 2", "tables 2 of 2")
}

// callCosts: the calls of the disk that a job makes, each by what it costs an armed one.
func callCosts(t *testing.T, in input) []int {
	t.Helper()
	var l []int
	m := newModel(in, world(t))
	for n := uint64(1); m.next() != Done; n++ {
		switch m.next() {
		case Make:
			l = append(l, 1)
		case Write:
			l = append(l, 1+m.size())
		case Seal:
			l = append(l, 1, 1)
		}
		if m.step(n) != api.OK {
			break
		}
	}
	return l
}

// TestEachCallFails: whichever call of the disk fails, or finds the machine falling: the job is over there, and nothing more is called.
func TestEachCallFails(t *testing.T) {
	r := rand.New(rand.NewSource(175))
	seen := map[string]int{}
	tried := func(in input, rig func(d *disk.Disk)) {
		d, other := world(t), world(t)
		rig(d)
		rig(other)
		n := uint64(7)
		end, _ := together(t, in, d, other, func() uint64 { n++; return n }, func(int, *model) {})
		seen[end]++
	}
	for range 300 {
		in := anyInput(t, r)
		in.c.MaxChunk = max(in.c.MaxChunk, 1000)
		units := 0
		for i, cost := range callCosts(t, in) {
			if i == 12 {
				break
			}
			for _, at := range []int{1, cost, 1 + r.Intn(cost)} {
				tried(in, func(d *disk.Disk) { d.Arm(units + at) })
			}
			units += cost
			part, calls := r.Intn(cost+2), 1+r.Intn(3)
			tried(in, func(d *disk.Disk) { d.Fail(i, calls, part) })
		}
	}
	enough(t, seen, "error 30 of 1", "error 30 of 3", "error 30 of 4", "error 31 of 1", "error 31 of 3", "error 31 of 4")
}
