package version

import (
	"slices"
	"strings"

	"scree/api"
)

// draft: the next version while an edit is laid on it. Its lists are its own: should the edit be wrong, the draft is dropped, and nothing else has been touched.
type draft struct {
	levels [][]api.Table
	where  map[uint64]int // by its number the level of each table: a number stands in one level at most
}

// edited makes the next version.
func (v *Version) edited(e api.Edit) (*Version, api.Errno) {
	d := v.draft()
	if err := d.takeOut(e.Out); err != api.OK {
		return nil, err
	}
	if err := d.bringIn(e.In); err != api.OK {
		return nil, err
	}
	if err := d.order(); err != api.OK {
		return nil, err
	}
	return &Version{levels: d.levels}, api.OK
}

func (v *Version) draft() *draft {
	d := &draft{levels: make([][]api.Table, len(v.levels)), where: make(map[uint64]int)}
	for i := range v.levels {
		d.levels[i] = v.Tables(i)
		for _, t := range d.levels[i] {
			d.where[t.Number] = i
		}
	}
	return d
}

func (d *draft) takeOut(out []api.Place) api.Errno {
	for _, p := range out {
		if !isLevel(d.levels, p.Level) {
			return api.ErrVersionLevel
		}
		if level, stands := d.where[p.Number]; !stands || level != p.Level {
			return api.ErrVersionNone
		}
		delete(d.where, p.Number)
	}
	d.dropTaken()
	return api.OK
}

// dropTaken must run ahead of bringIn: a number that comes in again is found in where like those that never went.
func (d *draft) dropTaken() {
	for i, l := range d.levels {
		d.levels[i] = slices.DeleteFunc(l, func(t api.Table) bool {
			_, stays := d.where[t.Number]
			return !stays
		})
	}
}

func (d *draft) bringIn(in []api.Placed) api.Errno {
	for _, p := range in {
		if !isLevel(d.levels, p.Level) {
			return api.ErrVersionLevel
		}
		if _, stands := d.where[p.Table.Number]; stands {
			return api.ErrVersionTwice
		}
		if p.Table.Greatest < p.Table.Least {
			return api.ErrVersionOrder
		}
		d.where[p.Table.Number] = p.Level
		d.levels[p.Level] = append(d.levels[p.Level], p.Table)
	}
	return api.OK
}

// order lays the tables of each level from 1 on by their least keys. Level 0 stays as it came: its order tells the newer ones.
func (d *draft) order() api.Errno {
	for _, l := range d.levels[1:] {
		slices.SortFunc(l, func(a, b api.Table) int { return strings.Compare(a.Least, b.Least) })
		if overlapping(l) {
			return api.ErrVersionOrder
		}
	}
	return api.OK
}

// overlapping looks at neighbours alone: where the least keys rise, and two tables overlap, the first of them overlaps the one right behind it.
func overlapping(l []api.Table) bool {
	for i := 1; i < len(l); i++ {
		if l[i-1].Greatest >= l[i].Least {
			return true
		}
	}
	return false
}
