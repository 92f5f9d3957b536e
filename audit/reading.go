package audit

import (
	"slices"

	"scree/api"
	"scree/log"
	"scree/manifest"
	"scree/table"
	"scree/version"
)

// Above these a life might come to the end of the numbers.
const (
	mostFile  = 1_000_000_000_000 - 1<<32 // of a file's number
	mostEntry = 1<<56 - 1<<40             // of an entry's number, and of the roots'
)

// reading: what was found in a directory. A coming up ends with the first thing that is refused; this goes on behind it, as far as there is something to go on with, so that all that is wrong is found at once.
type reading struct {
	directory
	refused []api.Fault    // in the order in which a coming up asks
	wrong   []api.Fault    // what no coming up minds
	logs    [][]api.Entry  // of each log that was read, in the order of the logs
	tables  []*table.Table // of level 0 the last one first; none where one was refused
}

func read(c api.Config, files []api.File) *reading {
	r := &reading{directory: directoryOf(files)}
	r.readNumbers()
	if v, least, ok := r.readManifest(c.Levels); ok {
		r.readTables(v)
		r.readLogs(least)
	}
	return r
}

func (r *reading) refuse(name string, err api.Errno) {
	r.refused = append(r.refused, api.Fault{Name: name, Err: err})
}

// readNumbers refuses the names whose numbers are too near to their end.
func (r *reading) readNumbers() {
	for _, f := range r.directory {
		if _, number, ok := manifest.Number(f.Name); ok && number > mostFile {
			r.refuse(f.Name, api.ErrOpenNumber)
		}
	}
}

// readManifest reads the version that holds, and the least number of a wanted log; false: the directory is empty, or it is refused.
func (r *reading) readManifest(levels int) (*version.Version, uint64, bool) {
	b, ok := r.bytesOf(fileCurrent)
	if !ok {
		return nil, 0, false
	}
	name, err := manifest.Points(b)
	if err != api.OK {
		r.refuse(fileCurrent, err)
		return nil, 0, false
	}
	if b, ok = r.bytesOf(name); !ok {
		r.refuse(fileCurrent, api.ErrManifestNone)
		return nil, 0, false
	}
	s, roots, err := manifest.Read(b, levels)
	if err == api.OK && isFar(s.Current(), roots) {
		err = api.ErrOpenNumber
	}
	if err != api.OK {
		r.refuse(name, err)
		return nil, 0, false
	}
	return s.Current(), roots.Log, true
}

// isFar tells whether a number that a manifest says is too near to its end.
func isFar(v *version.Version, roots api.Roots) bool {
	return max(roots.Log, roots.Next, roots.Seq) > mostEntry ||
		slices.ContainsFunc(tablesOf(v), func(t api.Table) bool { return t.Number > mostFile })
}

// tablesOf tells the tables of a version, level by level.
func tablesOf(v *version.Version) []api.Table {
	var l []api.Table
	for level := range v.Levels() {
		l = append(l, v.Tables(level)...)
	}
	return l
}

// readTables reads the version's tables.
func (r *reading) readTables(v *version.Version) {
	wanted := tablesOf(v)
	for i, x := range r.openTables(wanted) {
		if x.err != api.OK {
			r.refuse(nameOf(wanted[i]), x.err)
		}
		r.tables = append(r.tables, x.table)
	}
	slices.Reverse(r.tables[:len(v.Tables(0))])
}

// readLogs reads the wanted logs, from the one of the least number on.
func (r *reading) readLogs(least uint64) {
	wanted := r.wantedLogs(least)
	for i, f := range wanted {
		x := readLog(f.Data)
		r.logs = append(r.logs, x.entries)
		switch {
		case x.isFar():
			r.refuse(f.Name, api.ErrOpenNumber)
			return
		case x.refused != api.OK:
			r.wrong = append(r.wrong, api.Fault{Name: f.Name, Err: x.refused})
			return
		case x.torn:
			// A fall tears the log that was written last. One that others were written behind had been made sure.
			if slices.ContainsFunc(wanted[i+1:], hasRecord) {
				r.wrong = append(r.wrong, api.Fault{Name: f.Name, Err: api.ErrLogTorn})
			}
			return
		}
	}
}

// hasRecord tells whether a log, read by itself, has a whole record.
func hasRecord(f api.File) bool {
	recs, _, _ := log.Read(f.Data)
	return len(recs) > 0
}
