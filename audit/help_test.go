package audit

import (
	"fmt"
	"math/rand"
	"slices"
	"strings"
	"testing"

	"scree/api"
	"scree/log"
	"scree/manifest"
	"scree/table"
)

// conf: of a configuration Levels alone counts; what tables are made with is put beside it.
var conf = api.Config{Levels: 3, BlockBytes: 64, Restart: 2, BloomBits: 10}

// The greatest numbers that may be.
const (
	lastFile  = 1_000_000_000_000 - 1<<32
	lastEntry = 1<<56 - 1<<40
)

func file(name string, data []byte) api.File {
	return api.File{Name: name, Data: data, Sure: len(data)}
}

// number12: a name by its kind and number, written by itself.
func number12(kind string, number uint64) string { return fmt.Sprintf("%s-%012d", kind, number) }

// put, del: entries.
func put(key string, seq uint64, val string) api.Entry {
	return api.Entry{Key: key, Seq: seq, Val: val}
}

func del(key string, seq uint64) api.Entry { return api.Entry{Key: key, Seq: seq, Del: true} }

// shelf: a table, its level and its file.
type shelf struct {
	api.Placed
	api.File
}

// made makes a table.
func made(t testing.TB, level int, number uint64, l ...api.Entry) shelf {
	t.Helper()
	m := table.NewMaker(conf)
	var b []byte
	for _, e := range l {
		more, err := m.Add(e)
		if err != api.OK {
			t.Fatalf("no table: %v: error %d", e, err)
		}
		b = append(b, more...)
	}
	more, err := m.End()
	if err != api.OK {
		t.Fatalf("no table: error %d", err)
	}
	meta := m.Meta()
	meta.Number = number
	return shelf{api.Placed{Level: level, Table: meta}, file(number12("t", number), append(b, more...))}
}

// rooted: current, the manifest that it names, which brings tables in, and the tables' files.
func rooted(number uint64, r api.Roots, l ...shelf) []api.File {
	e := api.Edit{Log: r.Log, Next: r.Next, Seq: r.Seq, Pointers: make([]string, conf.Levels)}
	for _, x := range l {
		e.In = append(e.In, x.Placed)
	}
	files := []api.File{
		file("current", manifest.Current(number12("m", number))),
		file(number12("m", number), manifest.Bytes(0, e)),
	}
	for _, x := range l {
		files = append(files, x.File)
	}
	return files
}

// records: a log's bytes of these records.
func records(recs ...[]byte) []byte {
	var b []byte
	for _, rec := range recs {
		b = append(b, log.Append(len(b), rec)...)
	}
	return b
}

// group: a record of batches of writes as texts: `a1 b-` are a put of "1" at a and a delete of b.
func group(first uint64, batches ...string) []byte {
	var l [][]api.Write
	for _, text := range batches {
		var batch []api.Write
		for _, w := range strings.Fields(text) {
			if w[1:] == "-" {
				batch = append(batch, api.Write{Key: w[:1], Del: true})
			} else {
				batch = append(batch, api.Write{Key: w[:1], Val: w[1:]})
			}
		}
		l = append(l, batch)
	}
	return log.Put(first, l)
}

func logFile(number uint64, recs ...[]byte) api.File {
	return file(number12("l", number), records(recs...))
}

// with: files and more of them.
func with(files []api.File, more ...api.File) []api.File { return append(slices.Clone(files), more...) }

// without: files but those of these names.
func without(files []api.File, names ...string) []api.File {
	return slices.DeleteFunc(slices.Clone(files), func(f api.File) bool { return slices.Contains(names, f.Name) })
}

// changed: files of which one has other bytes.
func changed(files []api.File, name string, data []byte) []api.File {
	l := slices.Clone(files)
	i := slices.IndexFunc(l, func(f api.File) bool { return f.Name == name })
	l[i] = file(name, data)
	return l
}

// short: `t-7` for `t-000000000007`.
func short(name string) string {
	if len(name) == 14 && name[1] == '-' {
		return name[:2] + strings.TrimLeft(name[2:13], "0") + name[13:]
	}
	return name
}

func pairsText(l []api.Pair) string {
	var words []string
	for _, p := range l {
		words = append(words, p.Key+"="+p.Val)
	}
	return strings.Join(words, " ")
}

func faultsText(l []api.Fault) string {
	var words []string
	for _, f := range l {
		words = append(words, fmt.Sprintf("%s!%d", short(f.Name), int(f.Err)))
	}
	return strings.Join(words, " ")
}

// both tells what the two calls answer: `a=1 b=2`, or `!error`; then the faults.
func both(c api.Config, files []api.File) (string, string) {
	l, err := Map(c, files)
	if err != api.OK {
		return strings.TrimSpace(fmt.Sprintf("!%d %s", int(err), pairsText(l))), faultsText(Faults(c, files))
	}
	return pairsText(l), faultsText(Faults(c, files))
}

// answers holds both calls to what they have to answer.
func answers(t *testing.T, what string, files []api.File, wantMap, wantFaults string) {
	t.Helper()
	gotMap, gotFaults := both(conf, files)
	if gotMap != wantMap {
		t.Errorf("%s: the map %q, want %q", what, gotMap, wantMap)
	}
	if gotFaults != wantFaults {
		t.Errorf("%s: the faults %q, want %q", what, gotFaults, wantFaults)
	}
}

func one[T any](r *rand.Rand, l ...T) T { return l[r.Intn(len(l))] }
