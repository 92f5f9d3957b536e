package open

import (
	"slices"

	"scree/api"
	"scree/manifest"
	"scree/version"
)

const (
	fileCurrent = "current"
	fileNew     = "new" // current while it is made
)

const (
	kindLog      byte = 'l'
	kindManifest byte = 'm'
	kindTable    byte = 't'
)

// Above these a life might come to the end of the numbers.
const (
	mostFile  = 1_000_000_000_000 - 1<<32 // of a file's number
	mostEntry = 1<<56 - 1<<40             // of an entry's number, and of the roots'
)

// read reads what the directory says, and plans what is to be done with it.
func (o *Opener) read() api.Errno {
	if o.d.Down() {
		return api.ErrDiskDown
	}
	names := o.names()
	next, err := nextNumber(names)
	if err != api.OK {
		return err
	}
	old, err := o.readManifest()
	if err != api.OK {
		return err
	}
	o.roots.Next = next
	o.plan(names, old)
	return api.OK
}

// names tells the names of the directory that are a store's, rising.
func (o *Opener) names() []string {
	var l []string
	for _, f := range o.d.Files() {
		if _, _, ok := manifest.Number(f.Name); ok || f.Name == fileCurrent || f.Name == fileNew {
			l = append(l, f.Name)
		}
	}
	return l
}

// nextNumber tells the least number above those of all names.
func nextNumber(names []string) (uint64, api.Errno) {
	next := uint64(1)
	for _, name := range names {
		_, number, ok := manifest.Number(name)
		if !ok {
			continue
		}
		if number > mostFile {
			return 0, api.ErrOpenNumber
		}
		next = max(next, number+1)
	}
	return next, api.OK
}

// readManifest reads the version and the roots that hold, and tells the name of their manifest; of an empty store there is none.
func (o *Opener) readManifest() (string, api.Errno) {
	b, err := o.d.Read(fileCurrent)
	if err == api.ErrDiskNone {
		o.set = version.New(o.c.Levels)
		return "", api.OK
	}
	if err != api.OK {
		return "", err
	}
	name, err := manifest.Points(b)
	if err != api.OK {
		return "", err
	}
	if b, err = o.bytesOf(name, api.ErrManifestNone); err != api.OK {
		return "", err
	}
	if o.set, o.roots, err = manifest.Read(b, o.c.Levels); err != api.OK {
		return "", err
	}
	return name, checkNumbers(o.set, o.roots)
}

// bytesOf reads a file; none is the error, if there is no such file.
func (o *Opener) bytesOf(name string, none api.Errno) ([]byte, api.Errno) {
	b, err := o.d.Read(name)
	if err == api.ErrDiskNone {
		return nil, none
	}
	return b, err
}

// checkNumbers refuses what a manifest says, if a number of it is too near to its end.
func checkNumbers(s *version.Set, r api.Roots) api.Errno {
	if max(r.Log, r.Next, r.Seq) > mostEntry {
		return api.ErrOpenNumber
	}
	for _, t := range tablesOf(s) {
		if t.Number > mostFile {
			return api.ErrOpenNumber
		}
	}
	return api.OK
}

// tablesOf tells the tables of the current version, level by level.
func tablesOf(s *version.Set) []api.Table {
	var l []api.Table
	v := s.Current()
	for level := range v.Levels() {
		l = append(l, v.Tables(level)...)
	}
	return l
}

// plan puts down all further steps. What logs become is planned as they are read.
func (o *Opener) plan(names []string, old string) {
	tables := tablesOf(o.set)
	var logs, wanted, gone []string
	if old != "" {
		logs = wantedLogs(names, o.roots.Log)
		wanted = append(wanted, fileCurrent, old)
		gone = append(slices.Clone(logs), old)
	}
	var l []step
	for _, t := range tables {
		l = append(l, o.checkTable(t))
		wanted = append(wanted, manifest.Name(kindTable, t.Number))
	}
	wanted = append(wanted, logs...)
	l = append(l, o.makeSure(wanted))
	l = append(l, o.deletes(others(names, wanted))...)
	if len(logs) > 0 {
		l = append(l, o.readLogs(logs))
	}
	l = append(l, o.newLog, o.newManifest)
	l = append(l, o.deletes(gone)...)
	for _, do := range slices.Backward(l) {
		o.ahead(do)
	}
}

// wantedLogs tells the logs whose entries no table has yet, rising.
func wantedLogs(names []string, least uint64) []string {
	var l []string
	for _, name := range names {
		if kind, number, ok := manifest.Number(name); ok && kind == kindLog && number >= least {
			l = append(l, name)
		}
	}
	return l
}

// others tells the names that aren't wanted, in their order.
func others(names, wanted []string) []string {
	sorted := slices.Sorted(slices.Values(wanted))
	var l []string
	for _, name := range names {
		if _, found := slices.BinarySearch(sorted, name); !found {
			l = append(l, name)
		}
	}
	return l
}
