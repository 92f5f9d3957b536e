package open

import (
	"math/rand"
	"slices"
	"strings"
	"testing"

	"scree/api"
	"scree/log"
	"scree/manifest"
)

// anyConfig: a right one.
func anyConfig(r *rand.Rand) api.Config {
	c := conf
	c.Levels = one(r, 3, 3, 4, 5)
	c.MaxChunk = one(r, 1088, 1088, 2000, 1<<16)
	c.Burst = c.MaxChunk
	c.BlockBytes = one(r, 64, 200, 4096)
	c.Restart = one(r, 1, 4, 16)
	c.BloomBits = one(r, 0, 10)
	return c
}

func anyKey(r *rand.Rand) string {
	if r.Intn(40) == 0 {
		return strings.Repeat("b", api.MaxKey)
	}
	b := make([]byte, 1+r.Intn(2))
	for i := range b {
		b[i] = one[byte](r, 0, 'a', 'b', 'c', 'd', 255)
	}
	return string(b)
}

func anyVal(r *rand.Rand) string {
	return strings.Repeat(one(r, "v", "w", "x"), one(r, 0, 1, 1, 2, r.Intn(30), r.Intn(api.MaxValue), api.MaxValue))
}

// anyEntries: those of a table, with keys from a least one on.
func anyEntries(r *rand.Rand, from string) []api.Entry {
	var keys []string
	for range 1 + r.Intn(5) {
		keys = append(keys, from+anyKey(r))
	}
	slices.Sort(keys)
	var l []api.Entry
	for _, key := range slices.Compact(keys) {
		if len(key) > api.MaxKey {
			continue
		}
		e := api.Entry{Key: key, Seq: uint64(r.Intn(60)), Del: r.Intn(3) == 0}
		if !e.Del {
			e.Val = anyVal(r)
		}
		l = append(l, e)
	}
	if len(l) == 0 {
		l = []api.Entry{{Key: from + "a"}}
	}
	return l
}

// anyRecord: a group of batches; now and then one that is refused, or too near to the end.
func anyRecord(r *rand.Rand, first uint64, wrong bool) []byte {
	if wrong && r.Intn(25) == 0 {
		return one(r, nil, []byte{0, 1, 1, 9}, []byte("nothing"))
	}
	if wrong && r.Intn(60) == 0 {
		first = 1<<56 - 1<<40 - uint64(r.Intn(3))
	}
	var batches [][]api.Write
	for range r.Intn(4) {
		var batch []api.Write
		for range r.Intn(5) {
			w := api.Write{Key: anyKey(r), Del: r.Intn(3) == 0}
			if !w.Del {
				w.Val = anyVal(r)
			}
			batch = append(batch, w)
		}
		batches = append(batches, batch)
	}
	return log.Put(first, batches)
}

func anyLog(r *rand.Rand, number, first uint64, wrong bool) api.File {
	var b []byte
	for range one(r, 0, 1, 1, 2, 4, r.Intn(12)) {
		b = append(b, log.Append(len(b), anyRecord(r, first+uint64(r.Intn(20)), wrong))...)
		first += 5
	}
	switch r.Intn(6) {
	case 0:
		b = b[:len(b)-r.Intn(min(len(b), 30)+1)]
	case 1:
		b = append(b, make([]byte, r.Intn(9))...)
	}
	return file(number12("l", number), b)
}

// directory: a store's files while they are made up.
type directory struct {
	t     testing.TB
	r     *rand.Rand
	c     api.Config
	next  uint64
	files []api.File
	in    []api.Placed
}

// number: one that wasn't given out yet.
func (x *directory) number() uint64 {
	x.next += uint64(one(x.r, 1, 1, 1, 3))
	return x.next
}

func (x *directory) addTable(level int, from string) {
	f, meta := tableFile(x.t, x.c, x.number(), anyEntries(x.r, from)...)
	x.files = append(x.files, f)
	x.in = append(x.in, api.Placed{Level: level, Table: meta})
}

// addTables: level 0's may overlap, the others' begin each with a letter of its own.
func (x *directory) addTables() {
	for range x.r.Intn(4) {
		x.addTable(0, "")
	}
	for level := 1; level < x.c.Levels; level++ {
		for _, from := range []string{"a", "c", "q", "\xff"} {
			if x.r.Intn(4) == 0 {
				x.addTable(level, from)
			}
		}
	}
	x.r.Shuffle(len(x.in), func(i, j int) { x.in[i], x.in[j] = x.in[j], x.in[i] })
}

// edits: the tables come in by one edit or by several; some more came in and went out again.
func (x *directory) edits(roots api.Roots) []api.Edit {
	var l []api.Edit
	in := x.in
	pointers := make([]string, x.c.Levels)
	for i := range pointers {
		pointers[i] = one(x.r, "", anyKey(x.r))
	}
	for {
		n := x.r.Intn(len(in) + 1)
		if x.r.Intn(2) == 0 || len(l) == 4 {
			n = len(in)
		}
		e := api.Edit{Log: roots.Log, Next: roots.Next, Seq: roots.Seq, In: in[:n], Pointers: pointers}
		if x.r.Intn(3) == 0 {
			gone := api.Table{Number: x.number(), Least: "z", Greatest: "z"}
			e.In = append(slices.Clone(e.In), api.Placed{Level: 0, Table: gone})
			l = append(l, e)
			e.In, e.Out = nil, []api.Place{{Level: 0, Number: gone.Number}}
		}
		l = append(l, e)
		if in = in[n:]; len(in) == 0 {
			return l
		}
	}
}

func (x *directory) add(f api.File) {
	if _, ok := find(x.files, f.Name); !ok {
		x.files = append(x.files, f)
	}
}

// addOthers: orphans, and files of other names.
func (x *directory) addOthers() {
	for range x.r.Intn(4) {
		x.add(file(number12(one(x.r, "l", "m", "t"), x.number()), []byte(anyVal(x.r))))
	}
	for range x.r.Intn(3) {
		x.add(file(one(x.r, "new", "new", "x", "t-1", "currents", "l-9999999999999"), []byte(anyVal(x.r))))
	}
}

// anyRight: a directory that is refused by no stage.
func anyRight(t testing.TB, r *rand.Rand, c api.Config) []api.File {
	x := &directory{t: t, r: r, c: c, next: uint64(r.Intn(5))}
	x.make(false)
	return x.files
}

// make makes a directory; a wrong one has records that are refused.
func (x *directory) make(wrong bool) {
	r := x.r
	if r.Intn(8) == 0 {
		// An empty store, with whatever else.
		x.add(anyLog(r, x.number(), 3, wrong))
		x.addOthers()
		return
	}
	for range r.Intn(2) {
		x.add(anyLog(r, x.number(), 3, wrong))
	}
	x.addOthers()
	x.addTables()
	roots := api.Roots{Log: x.next + 1, Next: x.next + uint64(r.Intn(30)), Seq: uint64(r.Intn(90))}
	for range one(r, 0, 1, 1, 2, 3) {
		x.add(anyLog(r, x.number(), uint64(r.Intn(90)), wrong))
		x.addOthers()
	}
	number := x.number()
	b := manifest.Bytes(0, x.edits(roots)...)
	if r.Intn(5) == 0 {
		b = append(b, make([]byte, r.Intn(20))...)
	}
	name := number12("m", number)
	x.files = append(x.files, file(name, b), file("current", manifest.Current(name)))
}

// anyFiles: a directory with now and then something wrong in it, and not all of it sure.
func anyFiles(t testing.TB, r *rand.Rand, c api.Config) []api.File {
	x := &directory{t: t, r: r, c: c, next: uint64(r.Intn(5))}
	x.make(r.Intn(2) == 0)
	if r.Intn(3) == 0 {
		x.spoil()
	}
	for i := range x.files {
		x.files[i].Sure = r.Intn(len(x.files[i].Data) + 1)
	}
	return x.files
}

// spoil makes one thing of a directory wrong.
func (x *directory) spoil() {
	r := x.r
	far := uint64(1_000_000_000_000 - 1<<32 + r.Intn(2))
	roots := one(r, api.Roots{Log: 1<<56 - 1<<40 + uint64(r.Intn(2))}, api.Roots{Seq: 1<<56 - 1<<40 + uint64(r.Intn(2))}, api.Roots{Next: 1<<63 + 7})
	in := slices.Clone(x.in)
	switch r.Intn(10) {
	case 0:
		x.add(file(number12(one(r, "l", "m", "t"), far), nil))
	case 1:
		x.rewrite(roots, in, 0)
	case 2:
		in = append(in, api.Placed{Table: api.Table{Number: far, Least: "a", Greatest: "a"}})
		x.rewrite(api.Roots{}, in, 0)
	case 3:
		x.rewrite(api.Roots{}, append(in, in...), 0)
	case 4:
		x.rewrite(api.Roots{}, in, r.Intn(3)-1)
	case 5:
		if len(in) > 0 {
			one(r, func(p *api.Table) { p.Weight++ }, func(p *api.Table) { p.Bytes++ }, func(p *api.Table) { p.Entries-- }, func(p *api.Table) { p.Number++ })(&in[r.Intn(len(in))].Table)
		}
		x.rewrite(api.Roots{}, in, 0)
	case 6:
		x.files = slices.DeleteFunc(x.files, func(f api.File) bool { return f.Name[0] == 'm' })
		x.add(file("new", nil))
	default:
		x.spoilFile(r.Intn(len(x.files)))
	}
}

// spoilFile makes a file wrong, or takes it away.
func (x *directory) spoilFile(i int) {
	f := &x.files[i]
	switch x.r.Intn(5) {
	case 0:
		x.files = slices.Delete(x.files, i, i+1)
		x.add(file("new", nil))
	case 1:
		f.Data = f.Data[:x.r.Intn(len(f.Data)+1)]
	case 2:
		f.Data = f.Data[:min(len(f.Data), 8)]
	case 3:
		f.Data = append(f.Data, 0)
	case 4:
		if len(f.Data) > 0 {
			f.Data[x.r.Intn(len(f.Data))] ^= 1 << x.r.Intn(8)
		}
	}
}

// rewrite lays another manifest down, with more or fewer pointers.
func (x *directory) rewrite(roots api.Roots, in []api.Placed, pointers int) {
	for i, f := range x.files {
		if f.Name[0] != 'm' {
			continue
		}
		e := api.Edit{Log: roots.Log, Next: roots.Next, Seq: roots.Seq, In: in, Pointers: make([]string, min(x.c.Levels+pointers, api.MaxLevels))}
		l := []api.Edit{e}
		if pointers == 0 && x.r.Intn(4) == 0 {
			l = append(l, api.Edit{Out: []api.Place{{Level: 1, Number: 1 << 50}}, Pointers: e.Pointers})
		}
		x.files[i].Data = manifest.Bytes(0, l...)
	}
}
