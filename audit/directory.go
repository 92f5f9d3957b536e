package audit

import (
	"slices"
	"strings"

	"scree/api"
	"scree/manifest"
)

const fileCurrent = "current"

const (
	kindLog   byte = 'l'
	kindTable byte = 't'
)

// directory: files rising by name, one of a name.
type directory []api.File

func directoryOf(files []api.File) directory {
	d := slices.Clone(files)
	// Of files of one name the first one counts, so their order must stay.
	slices.SortStableFunc(d, func(a, b api.File) int { return strings.Compare(a.Name, b.Name) })
	return slices.CompactFunc(d, func(a, b api.File) bool { return a.Name == b.Name })
}

// bytesOf tells a file's bytes; false: there is no such file.
func (d directory) bytesOf(name string) ([]byte, bool) {
	i, ok := slices.BinarySearchFunc(d, name, func(f api.File, name string) int { return strings.Compare(f.Name, name) })
	if !ok {
		return nil, false
	}
	return d[i].Data, true
}

// wantedLogs tells the logs whose entries no table has yet, rising.
func (d directory) wantedLogs(least uint64) []api.File {
	var l []api.File
	for _, f := range d {
		if kind, number, ok := manifest.Number(f.Name); ok && kind == kindLog && number >= least {
			l = append(l, f)
		}
	}
	return l
}
