package disk

import (
	"bytes"
	"maps"

	"scree/api"
)

// Image tells the files that a fall would leave.
func (d *Disk) Image(dir int, keep []int) []api.File {
	files := maps.Clone(d.files)
	files.undo(d.lost(dir))
	told := make([]api.File, 0, len(files))
	for i, name := range files.names() {
		data := bytes.Clone(files[name].left(among(keep, i)))
		told = append(told, api.File{Name: name, Data: data, Sure: len(data)})
	}
	return told
}

// Fall lets the machine fall (if it hasn't), and come up with what survives.
func (d *Disk) Fall(dir int, keep []int) {
	d.files.undo(d.lost(dir))
	for i, name := range d.files.names() {
		f := d.files[name]
		f.data = f.left(among(keep, i))
		f.sure = len(f.data)
	}
	d.used = d.files.bytes()
	d.changes, d.down, d.rig = nil, false, rig{}
}

// lost: the changes of the directory that a fall doesn't keep.
func (d *Disk) lost(dir int) []change {
	return d.changes[min(max(dir, 0), len(d.changes)):]
}

// among: how many bytes that aren't sure the i-th file keeps.
func among(keep []int, i int) int {
	if len(keep) == 0 {
		return 0
	}
	return keep[i%len(keep)]
}
