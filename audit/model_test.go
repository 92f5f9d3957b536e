package audit

import (
	"fmt"
	"maps"
	"regexp"
	"slices"
	"strings"

	"scree/api"
	"scree/ikey"
	"scree/log"
	"scree/manifest"
	"scree/table"
	"scree/version"
)

// world: files by name, the first of each; the model reads them as the chapter's words go.
type world map[string][]byte

func worldOf(files []api.File) world {
	w := world{}
	for _, f := range files {
		if _, ok := w[f.Name]; !ok {
			w[f.Name] = f.Data
		}
	}
	return w
}

var numbered = regexp.MustCompile(`^[lmt]-[0-9]{12}$`)

// names tells the names with a number, rising; of a kind, or of all.
func (w world) names(kinds string) []string {
	var l []string
	for _, name := range slices.Sorted(maps.Keys(w)) {
		if numbered.MatchString(name) && strings.Contains(kinds, name[:1]) {
			l = append(l, name)
		}
	}
	return l
}

func numberOf(name string) uint64 {
	n := uint64(0)
	for _, c := range name[2:] {
		n = 10*n + uint64(c-'0')
	}
	return n
}

func (w world) stage1() []api.Fault {
	var l []api.Fault
	for _, name := range w.names("lmt") {
		if numberOf(name) > 1_000_000_000_000-4_294_967_296 {
			l = append(l, api.Fault{Name: name, Err: api.ErrOpenNumber})
		}
	}
	return l
}

// stage2 tells the set, the roots, and what is refused; no set: the directory is empty.
func (w world) stage2(levels int) (*version.Set, api.Roots, []api.Fault) {
	b, ok := w["current"]
	if !ok {
		return nil, api.Roots{}, nil
	}
	name, err := manifest.Points(b)
	if err != api.OK {
		return nil, api.Roots{}, []api.Fault{{Name: "current", Err: err}}
	}
	if _, ok := w[name]; !ok {
		return nil, api.Roots{}, []api.Fault{{Name: "current", Err: api.ErrManifestNone}}
	}
	s, r, err := manifest.Read(w[name], levels)
	if err != api.OK {
		return nil, r, []api.Fault{{Name: name, Err: err}}
	}
	most := uint64(1)<<56 - 1<<40
	far := r.Log > most || r.Next > most || r.Seq > most
	for level := range 5 {
		for _, x := range s.Current().Tables(level) {
			far = far || x.Number > 1_000_000_000_000-4_294_967_296
		}
	}
	if far {
		return nil, r, []api.Fault{{Name: name, Err: api.ErrOpenNumber}}
	}
	return s, r, nil
}

// table tells a table's entries, or why it is refused.
func (w world) table(x api.Table) ([]api.Entry, api.Errno) {
	b, ok := w[fmt.Sprintf("t-%012d", x.Number)]
	if !ok {
		return nil, api.ErrOpenTable
	}
	t, err := table.Open(b)
	if err != api.OK {
		return nil, err
	}
	m := t.Meta()
	if m.Weight != x.Weight || m.Bytes != x.Bytes || m.Entries != x.Entries || m.Least != x.Least || m.Greatest != x.Greatest {
		return nil, api.ErrOpenTable
	}
	return slices.Collect(t.From("")), api.OK
}

// stage3 tells what is refused, in order.
func (w world) stage3(s *version.Set) []api.Fault {
	var l []api.Fault
	for level := range 5 {
		for _, x := range s.Current().Tables(level) {
			if _, err := w.table(x); err != api.OK {
				l = append(l, api.Fault{Name: fmt.Sprintf("t-%012d", x.Number), Err: err})
			}
		}
	}
	return l
}

// modelLog: what stage 4 says of a log.
type modelLog struct {
	name    string
	entries []api.Entry
	far     bool
	refused api.Errno
	whole   bool
}

func (w world) log(name string) modelLog {
	recs, taken, _ := log.Read(w[name])
	x := modelLog{name: name, whole: taken == len(w[name])}
	for _, rec := range recs {
		first, group, err := log.Get(rec)
		if err != api.OK {
			x.refused = err
			return x
		}
		for _, e := range ikey.Entries(first, slices.Concat(group...)) {
			x.entries = append(x.entries, e)
			x.far = x.far || e.Seq > 1<<56-1<<40
		}
	}
	return x
}

// stage4 tells the logs that are read.
func (w world) stage4(least uint64) []modelLog {
	var l []modelLog
	for _, name := range w.wanted(least) {
		x := w.log(name)
		l = append(l, x)
		if x.far || x.refused != api.OK || !x.whole {
			break
		}
	}
	return l
}

func (w world) wanted(least uint64) []string {
	return slices.DeleteFunc(w.names("l"), func(name string) bool { return numberOf(name) < least })
}

// modelMap is P21.1 to P21.3.
func modelMap(levels int, files []api.File) ([]api.Pair, api.Errno) {
	w := worldOf(files)
	if l := w.stage1(); len(l) > 0 {
		return nil, l[0].Err
	}
	s, r, l := w.stage2(levels)
	if len(l) > 0 {
		return nil, l[0].Err
	}
	if s == nil {
		return nil, api.OK
	}
	if l := w.stage3(s); len(l) > 0 {
		return nil, l[0].Err
	}
	logs := w.stage4(r.Log)
	for _, x := range logs {
		if x.far {
			return nil, api.ErrOpenNumber
		}
	}
	return meaning(w.entries(s, logs)), api.OK
}

// entries tells them in the order of P21.2.
func (w world) entries(s *version.Set, logs []modelLog) []api.Entry {
	var all []api.Entry
	for i := range logs {
		all = append(all, logs[len(logs)-1-i].entries...)
	}
	for level := range 5 {
		l := s.Current().Tables(level)
		for i := range l {
			x := l[i]
			if level == 0 {
				x = l[len(l)-1-i]
			}
			entries, _ := w.table(x)
			all = append(all, entries...)
		}
	}
	return all
}

// meaning: the pairs of the newest entries, of equal ones the first.
func meaning(all []api.Entry) []api.Pair {
	slices.SortStableFunc(all, ikey.Compare)
	var l []api.Pair
	for i, e := range all {
		if (i == 0 || all[i-1].Key != e.Key) && !e.Del {
			l = append(l, api.Pair{Key: e.Key, Val: e.Val})
		}
	}
	return l
}

// modelFaults is P21.4.
func modelFaults(levels int, files []api.File) []api.Fault {
	w := worldOf(files)
	l := w.stage1()
	s, r, refused := w.stage2(levels)
	l = append(l, refused...)
	if s != nil {
		l = append(l, w.stage3(s)...)
		l = append(l, w.logFaults(r.Log)...)
	}
	told := map[string]api.Errno{}
	for _, f := range l {
		if _, ok := told[f.Name]; !ok {
			told[f.Name] = f.Err
		}
	}
	var out []api.Fault
	for _, name := range slices.Sorted(maps.Keys(told)) {
		out = append(out, api.Fault{Name: name, Err: told[name]})
	}
	return out
}

func (w world) logFaults(least uint64) []api.Fault {
	var l []api.Fault
	for _, x := range w.stage4(least) {
		switch {
		case x.far:
			l = append(l, api.Fault{Name: x.name, Err: api.ErrOpenNumber})
		case x.refused != api.OK:
			l = append(l, api.Fault{Name: x.name, Err: x.refused})
		case !x.whole && w.recordBehind(least, x.name):
			l = append(l, api.Fault{Name: x.name, Err: api.ErrLogTorn})
		}
	}
	return l
}

func (w world) recordBehind(least uint64, name string) bool {
	for _, other := range w.wanted(least) {
		if recs, _, _ := log.Read(w[other]); other > name && len(recs) > 0 {
			return true
		}
	}
	return false
}
