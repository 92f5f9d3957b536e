package audit

import (
	"fmt"
	"math/rand"
	"slices"
	"strings"
	"testing"

	"scree/api"
	"scree/log"
	"scree/manifest"
)

func anyKey(r *rand.Rand) string {
	if r.Intn(40) == 0 {
		return strings.Repeat("b", api.MaxKey)
	}
	b := make([]byte, 1+r.Intn(2))
	for i := range b {
		b[i] = one[byte](r, 0, 'a', 'b', 'c', 'd', 255)
	}
	return string(b)
}

// anyVal: mostly short, and hardly ever the same twice.
func anyVal(r *rand.Rand) string {
	return strings.Repeat("v", one(r, 0, 0, 1, r.Intn(30), api.MaxValue-9)) + fmt.Sprint(r.Intn(1000))
}

// anyEntries: those of a table, with keys from a least one on.
func anyEntries(r *rand.Rand, from string) []api.Entry {
	var keys []string
	for range 1 + r.Intn(5) {
		keys = append(keys, from+anyKey(r))
	}
	slices.Sort(keys)
	var l []api.Entry
	for _, key := range slices.Compact(keys) {
		if len(key) > api.MaxKey {
			continue
		}
		e := api.Entry{Key: key, Seq: uint64(r.Intn(30)), Del: r.Intn(3) == 0}
		if !e.Del {
			e.Val = anyVal(r)
		}
		l = append(l, e)
	}
	if len(l) == 0 {
		l = []api.Entry{{Key: from + "a"}}
	}
	return l
}

// anyRecord: a group of batches; now and then one that is refused, or too near to the end.
func anyRecord(r *rand.Rand, first uint64, wrong bool) []byte {
	if wrong && r.Intn(20) == 0 {
		return one(r, nil, []byte{0, 1, 1, 9}, []byte("nothing"), []byte{1, 1, 17})
	}
	if wrong && r.Intn(30) == 0 {
		first = lastEntry - uint64(r.Intn(3))
	}
	var batches [][]api.Write
	for range r.Intn(4) {
		var batch []api.Write
		for range r.Intn(5) {
			w := api.Write{Key: anyKey(r), Del: r.Intn(3) == 0}
			if !w.Del {
				w.Val = anyVal(r)
			}
			batch = append(batch, w)
		}
		batches = append(batches, batch)
	}
	return log.Put(first, batches)
}

func anyLog(r *rand.Rand, number uint64, wrong bool) api.File {
	var b []byte
	for range one(r, 0, 1, 1, 2, 4, r.Intn(12)) {
		b = append(b, log.Append(len(b), anyRecord(r, uint64(r.Intn(30)), wrong))...)
	}
	switch r.Intn(8) {
	case 0:
		b = b[:len(b)-r.Intn(min(len(b), 30)+1)]
	case 1:
		b = append(b, make([]byte, r.Intn(9))...)
	}
	return file(number12("l", number), b)
}

// making: a store's files while they are made up.
type making struct {
	t      testing.TB
	r      *rand.Rand
	levels int
	wrong  bool
	next   uint64
	files  []api.File
	in     []api.Placed
	roots  api.Roots
}

// number: one that wasn't given out yet.
func (x *making) number() uint64 {
	x.next += uint64(one(x.r, 1, 1, 1, 3))
	return x.next
}

func (x *making) addTable(level int, from string) {
	s := made(x.t, level, x.number(), anyEntries(x.r, from)...)
	x.files = append(x.files, s.File)
	x.in = append(x.in, s.Placed)
}

// addTables: level 0's may overlap, the others' begin each with a letter of its own.
func (x *making) addTables() {
	for range x.r.Intn(4) {
		x.addTable(0, "")
	}
	for level := 1; level < x.levels; level++ {
		for _, from := range []string{"a", "c", "q", "\xff"} {
			if x.r.Intn(3) == 0 {
				x.addTable(level, from)
			}
		}
	}
	x.r.Shuffle(len(x.in), func(i, j int) { x.in[i], x.in[j] = x.in[j], x.in[i] })
}

// edits: the tables come in by one edit or by several.
func (x *making) edits(in []api.Placed) []api.Edit {
	var l []api.Edit
	for {
		n := x.r.Intn(len(in) + 1)
		if x.r.Intn(2) == 0 || len(l) == 4 {
			n = len(in)
		}
		l = append(l, api.Edit{Log: x.roots.Log, Next: x.roots.Next, Seq: x.roots.Seq, In: in[:n], Pointers: make([]string, x.levels)})
		if in = in[n:]; len(in) == 0 {
			return l
		}
	}
}

// add adds a file, if there is none of its name.
func (x *making) add(f api.File) {
	if !slices.ContainsFunc(x.files, func(other api.File) bool { return other.Name == f.Name }) {
		x.files = append(x.files, f)
	}
}

// addOthers: files that nothing leads to, and files of other names.
func (x *making) addOthers() {
	for range x.r.Intn(4) {
		x.add(file(number12(one(x.r, "m", "t"), x.number()), []byte(anyVal(x.r))))
	}
	for range x.r.Intn(3) {
		x.add(file(one(x.r, "new", "new", "x", "t-1", "currents", "l-9999999999999"), []byte(anyVal(x.r))))
	}
}

// make makes a directory in which nothing is refused, but for the records of logs.
func (x *making) make() {
	r := x.r
	for range r.Intn(3) {
		x.add(anyLog(r, x.number(), x.wrong))
	}
	x.addOthers()
	if r.Intn(10) == 0 {
		return
	}
	x.addTables()
	x.roots = api.Roots{Log: x.next + 1, Next: x.next + uint64(r.Intn(30)), Seq: uint64(r.Intn(90))}
	for range one(r, 0, 1, 2, 3, 4) {
		x.add(anyLog(r, x.number(), x.wrong))
		x.addOthers()
	}
	name := number12("m", x.number())
	b := manifest.Bytes(0, x.edits(x.in)...)
	if r.Intn(5) == 0 {
		b = append(b, make([]byte, r.Intn(20))...)
	}
	x.files = append(x.files, file(name, b), file("current", manifest.Current(name)))
}

// anyFiles: a directory, often with something wrong in it.
func anyFiles(t testing.TB, r *rand.Rand, levels int) []api.File {
	x := &making{t: t, r: r, levels: levels, wrong: r.Intn(2) == 0, next: uint64(r.Intn(5))}
	x.make()
	for range one(r, 0, 0, 1, 1, 2, 4) {
		x.spoil()
	}
	for i := range x.files {
		x.files[i].Sure = r.Intn(len(x.files[i].Data) + 1)
	}
	r.Shuffle(len(x.files), func(i, j int) { x.files[i], x.files[j] = x.files[j], x.files[i] })
	return x.files
}

// spoil makes one thing of a directory wrong.
func (x *making) spoil() {
	r := x.r
	in := slices.Clone(x.in)
	switch r.Intn(12) {
	case 0:
		x.addFar()
	case 1:
		far := lastEntry + uint64(r.Intn(2))
		x.roots = one(r, api.Roots{Log: far}, api.Roots{Next: far}, api.Roots{Seq: far})
		x.rewrite(x.edits(in))
	case 2:
		in = append(in, api.Placed{Table: api.Table{Number: lastFile + uint64(r.Intn(2)), Least: "a", Greatest: "a"}})
		x.rewrite(x.edits(in))
	case 3:
		x.rewrite(x.edits(append(in, in...)))
	case 4:
		x.rewrite(append(x.edits(in), api.Edit{Out: []api.Place{{Level: 1, Number: 1 << 50}}, Pointers: make([]string, x.levels)}))
	case 5:
		x.rewrite(append(x.edits(in), api.Edit{Pointers: make([]string, x.levels-1)}))
	case 6:
		for i := range in {
			one(r, func(*api.Table) {}, func(p *api.Table) { p.Weight++ }, func(p *api.Table) { p.Bytes++ }, func(p *api.Table) { p.Entries-- }, func(p *api.Table) { p.Greatest += "b" })(&in[i].Table)
		}
		x.rewrite(x.edits(in))
	default:
		if len(x.files) > 0 {
			x.spoilFile(r.Intn(len(x.files)))
		}
	}
}

// addFar adds names with numbers at the greatest one and above, or gives the manifest such a name.
func (x *making) addFar() {
	far := lastFile + uint64(x.r.Intn(2))
	i := slices.IndexFunc(x.files, func(f api.File) bool { return f.Name == "current" })
	m := x.manifest()
	if i < 0 || m < 0 || x.r.Intn(3) > 0 {
		x.add(anyLog(x.r, far+7, x.wrong))
		x.add(file(number12(one(x.r, "l", "m", "t"), far), nil))
		return
	}
	x.files[m].Name = number12("m", far)
	x.files[i].Data = manifest.Current(x.files[m].Name)
}

// manifest tells where the manifest stands; below 0: there is none.
func (x *making) manifest() int {
	return slices.IndexFunc(x.files, func(f api.File) bool {
		return strings.HasPrefix(f.Name, "m-") && len(f.Data) > 30
	})
}

// rewrite lays another manifest down.
func (x *making) rewrite(l []api.Edit) {
	if m := x.manifest(); m >= 0 {
		x.files[m].Data = manifest.Bytes(0, l...)
	}
}

// spoilFile makes a file wrong, or takes it away, or puts one of its name ahead of it.
func (x *making) spoilFile(i int) {
	f := &x.files[i]
	f.Data = slices.Clone(f.Data)
	switch x.r.Intn(6) {
	case 0:
		x.files = slices.Delete(x.files, i, i+1)
	case 1:
		f.Data = f.Data[:x.r.Intn(len(f.Data)+1)]
	case 2:
		f.Data = f.Data[:min(len(f.Data), 8)]
	case 3:
		f.Data = append(f.Data, 0)
	case 4:
		if len(f.Data) > 0 {
			f.Data[x.r.Intn(len(f.Data))] ^= 1 << x.r.Intn(8)
		}
	case 5:
		other := *f
		other.Data = one(x.r, nil, f.Data[:len(f.Data)/2], x.files[x.r.Intn(len(x.files))].Data)
		x.files = append(x.files, other)
	}
}
