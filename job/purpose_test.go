package job

import (
	"fmt"
	"math/rand"
	"slices"
	"strings"
	"testing"

	"scree/api"
	"scree/disk"
	"scree/ikey"
)

// staying: what stays of each part, level by level, and what all entries of the parts weigh.
func staying(in input) (levels []int, l [][]api.Entry, weight int) {
	for _, p := range newModel(in, nil).parts {
		var stays []api.Entry
		for _, key := range p.keys {
			weight += weightOf(key)
			stays = append(stays, p.stays(key)...)
		}
		levels, l = append(levels, p.level), append(l, stays)
	}
	return levels, l, weight
}

// unwritable tells whether a job can't do without an error.
func unwritable(in input) bool {
	_, l, _ := staying(in)
	return slices.ContainsFunc(slices.Concat(l...), func(e api.Entry) bool { return e.Seq >= 1<<56 })
}

// TestWhatItIsFor holds what a job leaves to what the chapter says of it, however its steps were.
func TestWhatItIsFor(t *testing.T) {
	r := rand.New(rand.NewSource(177))
	seen := map[string]int{}
	for range 4000 {
		in := anyInput(t, r)
		if unwritable(in) {
			continue
		}
		d := world(t)
		j := in.start(d)
		made := steps(t, j, 1)
		levels, want, weight := staying(in)
		out := j.Out()
		laid := 0
		for i, stays := range want {
			n := partHolds(t, in, d, out, levels[i], stays)
			for _, p := range out[:n] {
				laid += p.Table.Bytes
			}
			out = out[n:]
		}
		if len(out) != 0 {
			t.Fatalf("P17.7: tables of no part: %v\n%+v", out, in)
		}
		filesAreSure(t, d, j.Out())
		laysJust(t, in, made, laid)
		if keeps(t, in, len(strings.Fields(made)), weight) {
			seen["bounded"]++
		}
		seen[fmt.Sprint("tables ", min(2, len(j.Out())))]++
	}
	enough(t, seen, "bounded", "tables 0", "tables 1", "tables 2")
}

// partHolds holds the first tables of a list to be what stays of a part: how many of them there are.
func partHolds(t *testing.T, in input, d *disk.Disk, out []api.Placed, level int, stays []api.Entry) int {
	t.Helper()
	var got []api.Entry
	n := 0
	for len(got) < len(stays) && n < len(out) {
		p := out[n]
		l := held(t, d, p)
		got = append(got, l...)
		n++
		if p.Level != level || len(l) == 0 {
			t.Fatalf("P17.7: a table of level %d with %d entries, want level %d", p.Level, len(l), level)
		}
		if in.memtable == nil && in.c.FileBytes >= 1 {
			if without := p.Table.Weight - ikey.Weight(l[len(l)-1]); without >= in.c.FileBytes {
				t.Errorf("P17.7: FileBytes %d: it weighs %d without its last entry", in.c.FileBytes, without)
			}
			if len(got) < len(stays) && p.Table.Weight < in.c.FileBytes {
				t.Errorf("P17.7: FileBytes %d: it weighs %d, and isn't the last", in.c.FileBytes, p.Table.Weight)
			}
		}
	}
	if !slices.Equal(got, stays) || in.memtable != nil && n > 1 {
		t.Fatalf("P17.7: %d tables hold %v, want %v\n%+v", n, got, stays, in)
	}
	return n
}

// filesAreSure holds the disk to have just the files of the tables, all that they have being sure, and their names.
func filesAreSure(t *testing.T, d *disk.Disk, out []api.Placed) {
	t.Helper()
	files := d.Image(0, nil)
	if len(files) != len(out) || len(d.Files()) != len(out) {
		t.Fatalf("P17.7: %d tables, %d files, %d of them sure", len(out), len(d.Files()), len(files))
	}
	for _, p := range out {
		has := func(f api.File) bool {
			return f.Name == fmt.Sprintf("t-%012d", p.Table.Number) && len(f.Data) == p.Table.Bytes && f.Sure == len(f.Data)
		}
		if !slices.ContainsFunc(files, has) {
			t.Errorf("P17.7: the file of table %d isn't sure", p.Table.Number)
		}
	}
}

// laysJust holds the Writes to be small, and together just the bytes of the files.
func laysJust(t *testing.T, in input, made string, bytes int) {
	t.Helper()
	sum := 0
	for _, s := range strings.Fields(made) {
		n := 0
		fmt.Sscanf(s, "W%d", &n)
		if sum += n; n > max(1, in.c.MaxChunk) {
			t.Errorf("P17.8: MaxChunk %d: a Write of %d", in.c.MaxChunk, n)
		}
	}
	if sum != bytes {
		t.Errorf("P17.8: the Writes laid %d, the files have %d", sum, bytes)
	}
}

// keeps holds a job to its number of steps, and tells whether one is said.
func keeps(t *testing.T, in input, many, weight int) bool {
	t.Helper()
	chunks := weight / max(1, in.c.MaxChunk)
	most := 2*chunks + 6
	if in.memtable == nil {
		if in.c.FileBytes < 1 {
			return false
		}
		most = 2*chunks + 4*(weight/in.c.FileBytes) + 12
	}
	if many > most {
		t.Errorf("P17.9: %d steps of a weight of %d, at most %d\n%+v", many, weight, most, in.c)
	}
	return true
}

// TestOthers: several jobs on one disk, and others beside them, whose numbers come as they come: each does and makes what it does and makes alone.
func TestOthers(t *testing.T) {
	r := rand.New(rand.NewSource(1710))
	for range 300 {
		var inputs []input
		for len(inputs) < 4 {
			in := anyInput(t, r)
			in.c.MaxChunk = max(in.c.MaxChunk, 450)
			if !unwritable(in) {
				inputs = append(inputs, in)
			}
		}
		shared := world(t)
		var jobs []*Job
		made := make([]string, len(inputs))
		for _, in := range inputs {
			jobs = append(jobs, in.start(shared))
		}
		for number := uint64(1000); slices.ContainsFunc(jobs, func(j *Job) bool { return j.Next() != Done }); number++ {
			i := r.Intn(len(jobs))
			if jobs[i].Next() != Done {
				made[i] += stepText(jobs[i]) + " "
			}
			if err := jobs[i].Step(number); err != api.OK {
				t.Fatalf("P17.10: error %d", err)
			}
			beside(r, shared)
		}
		for i, in := range inputs {
			d := world(t)
			alone := in.start(d)
			if want := steps(t, alone, 1); strings.TrimSpace(made[i]) != want {
				t.Errorf("P17.10: the steps %s, alone %s", made[i], want)
			}
			if got, want := outText(t, shared, jobs[i]), outText(t, d, alone); got != want || jobs[i].Pointer() != alone.Pointer() {
				t.Errorf("P17.10: the tables %s, alone %s", got, want)
			}
		}
	}
}

// beside does something to a disk that touches no table's file.
func beside(r *rand.Rand, d *disk.Disk) {
	name := one(r, "x", "y", "l-000000000002")
	switch r.Intn(9) {
	case 0, 1, 2:
		d.Create(name)
	case 3:
		d.Append(name, make([]byte, r.Intn(50)))
	case 4:
		d.Sync(name)
	case 5:
		d.Rename(name, one(r, "x", "y"))
	case 6:
		d.Delete(name)
	case 7:
		d.SyncDir()
	}
}
