package disk

import (
	"maps"
	"slices"

	"scree/api"
)

// file: bytes, of which the first ones are sure. It is the same one under whatever name it stands.
type file struct {
	data []byte
	sure int
}

// directory: the files by their names.
type directory map[string]*file

// change: a Create, Delete or Rename, told so that it can be taken back: behind a fall the directory may be an earlier one.
type change struct {
	name string
	was  *file  // the file that had the name; nil: it came to be by this
	to   string // where a Rename took it; empty: it was none
	over *file  // the file that a Rename took the place of, if there was one
}

// names: all of them, rising.
func (l directory) names() []string {
	return slices.Sorted(maps.Keys(l))
}

// bytes: how many all files have together.
func (l directory) bytes() int {
	sum := 0
	for _, f := range l {
		sum += len(f.data)
	}
	return sum
}

// undo takes changes back, the last one first.
func (l directory) undo(changes []change) {
	for _, c := range slices.Backward(changes) {
		if c.to != "" {
			l.put(c.to, c.over)
		}
		l.put(c.name, c.was)
	}
}

// put gives a name to a file, or, if there is none, to nothing.
func (l directory) put(name string, f *file) {
	if f == nil {
		delete(l, name)
		return
	}
	l[name] = f
}

// left: what a fall leaves of a file's bytes: the sure ones, and so many of the others.
func (f *file) left(others int) []byte {
	end := f.sure + min(max(others, 0), len(f.data)-f.sure)
	return f.data[:end:end] // what is laid behind them later must not lie in what was cut off
}

// measure counts the bytes of files, and tells whether each of them may be.
func measure(files []api.File) (int, bool) {
	sum := 0
	for _, f := range files {
		if !mayBe(f.Name) || len(f.Data) > api.MaxFile || f.Sure < 0 || f.Sure > len(f.Data) {
			return 0, false
		}
		sum += len(f.Data)
	}
	return sum, true
}

// mayBe tells whether a file may have this name.
func mayBe(name string) bool {
	if len(name) < 1 || len(name) > api.MaxName {
		return false
	}
	for i := range len(name) {
		c := name[i]
		if (c < 'a' || c > 'z') && (c < '0' || c > '9') && c != '-' {
			return false
		}
	}
	return true
}
