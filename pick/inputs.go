package pick

import (
	"slices"

	"scree/api"
	"scree/version"
)

// Inputs tells the job of a level, whatever is locked.
func Inputs(c api.Config, v *version.Version, pointers []string, level int) (api.Job, bool) {
	if level < 0 || level >= last(c, v) {
		return api.Job{}, false
	}
	tables := v.Tables(level)
	if len(tables) == 0 {
		return api.Job{}, false
	}
	if level == 0 {
		return whole(v, tables), true
	}
	job := down(c, v, behind(tables, pointer(pointers, level)), level)
	job.Move = len(job.Lower) == 0 && level+1 < last(c, v)
	return job, true
}

// whole tells level 0's job: all of its tables go down together, since they may overlap: an older one that stayed would hide what a newer one took down.
func whole(v *version.Version, tables []api.Table) api.Job {
	least, greatest := hull(tables)
	return api.Job{Upper: tables, Lower: v.Overlap(1, least, greatest)}
}

// hull tells the least and the greatest key of tables.
func hull(tables []api.Table) (string, string) {
	least, greatest := tables[0].Least, tables[0].Greatest
	for _, t := range tables {
		least, greatest = min(least, t.Least), max(greatest, t.Greatest)
	}
	return least, greatest
}

// behind tells the table that is next behind a pointer, round and round.
func behind(tables []api.Table, pointer string) api.Table {
	i := slices.IndexFunc(tables, func(t api.Table) bool { return t.Least > pointer })
	return tables[max(i, 0)]
}

func pointer(pointers []string, level int) string {
	if level >= len(pointers) {
		return ""
	}
	return pointers[level]
}

// down tells the job that takes one table into the next level, with at most Fan tables of that: what lies beyond them is cut off, so that no job grows with what it overlaps.
func down(c api.Config, v *version.Version, t api.Table, level int) api.Job {
	job := api.Job{Level: level, Upper: []api.Table{t}}
	lower := v.Overlap(level+1, t.Least, t.Greatest)
	fan := max(0, c.Fan)
	if len(lower) > fan {
		job.Cut = lower[fan].Least
		lower = lower[:fan:fan]
	}
	job.Lower = lower
	return job
}
