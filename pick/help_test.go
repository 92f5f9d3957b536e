package pick

import (
	"math/rand"
	"slices"
	"strings"
	"testing"

	"scree/api"
	"scree/version"
)

// conf: the chapter's configuration.
var conf = api.Config{L0Trigger: 2, L0Stop: 4, Levels: 4, Base: 4096, Mult: 2, Fan: 2}

func tab(n uint64, weight int, least, greatest string) api.Table {
	return api.Table{Number: n, Weight: weight, Bytes: weight + 9, Entries: int(n % 7), Least: least, Greatest: greatest}
}

// made: a version with these tables, level by level.
func made(t testing.TB, levels ...[]api.Table) *version.Version {
	t.Helper()
	s := version.New(len(levels))
	e := api.Edit{Pointers: make([]string, len(levels))}
	for i, l := range levels {
		for _, x := range l {
			e.In = append(e.In, api.Placed{Level: i, Table: x})
		}
	}
	if _, err := s.Apply(e); err != api.OK {
		t.Fatalf("the version can't be: %v: error %d", levels, err)
	}
	return s.Current()
}

// example: the chapter's levels.
func example() [][]api.Table {
	return [][]api.Table{
		{tab(9, 500, "b", "d"), tab(12, 500, "c", "k")},
		{tab(3, 2000, "a", "c"), tab(4, 2000, "e", "p"), tab(5, 1000, "q", "z")},
		{tab(6, 3000, "d", "f"), tab(7, 3000, "g", "i"), tab(8, 2000, "k", "l"), tab(10, 1000, "x", "z")},
		{tab(11, 90000, "a", "z")},
	}
}

// byNumber: the tables of a version of these numbers, in this order.
func byNumber(t testing.TB, v *version.Version, numbers ...uint64) []api.Table {
	t.Helper()
	var out []api.Table
	for _, n := range numbers {
		for i := range v.Levels() {
			for _, x := range v.Tables(i) {
				if x.Number == n {
					out = append(out, x)
				}
			}
		}
	}
	if len(out) != len(numbers) {
		t.Fatalf("no such tables: %v", numbers)
	}
	return out
}

// equal holds two jobs against each other by a way of its own.
func equal(a, b api.Job) bool {
	if a.Level != b.Level || a.Cut != b.Cut || a.Move != b.Move || len(a.Upper) != len(b.Upper) || len(a.Lower) != len(b.Lower) {
		return false
	}
	for i := range a.Upper {
		if a.Upper[i] != b.Upper[i] {
			return false
		}
	}
	for i := range a.Lower {
		if a.Lower[i] != b.Lower[i] {
			return false
		}
	}
	return true
}

// tellsJob holds Inputs' answer to be a job, true; or, of no job, the zero one, false.
func tellsJob(t *testing.T, what string, c api.Config, v *version.Version, pointers []string, level int, want api.Job) {
	t.Helper()
	job, ok := Inputs(c, v, pointers, level)
	if !equal(job, want) || ok != (len(want.Upper) > 0) {
		t.Errorf("P16.3: %s: %v, %v, want %v", what, job, ok, want)
	}
}

func finds(t *testing.T, what string, c api.Config, v *version.Version, pointers []string, locked []uint64, want api.Job, state int) {
	t.Helper()
	if job, got := Next(c, v, pointers, locked); !equal(job, want) || got != state {
		t.Errorf("P16.4: %s: %v, %d, want %v, %d", what, job, got, want, state)
	}
}

func orders(t *testing.T, what string, c api.Config, v *version.Version, want ...int) {
	t.Helper()
	if got := Order(c, v); !slices.Equal(got, want) {
		t.Errorf("P16.2: %s: %v, want %v", what, got, want)
	}
}

func scores(t *testing.T, what string, c api.Config, v *version.Version, want ...int) {
	t.Helper()
	if got := Scores(c, v); !slices.Equal(got, want) {
		t.Errorf("P16.1: %s: %v, want %v", what, got, want)
	}
}

// anyConfig: of the fields that are looked at each as in a right configuration, small ones more often; the other fields anything.
func anyConfig(r *rand.Rand) api.Config {
	c := api.Config{Clients: r.Int() - r.Int(), MemBytes: r.Int() - r.Int(), L0Slow: r.Int() - r.Int(), FileBytes: r.Int() - r.Int(), MaxChunk: r.Int() - r.Int(), DebtStop: -r.Int()}
	c.Levels = 3 + r.Intn(3)
	c.Base = 4096 << r.Intn(13)
	c.Mult = 2 + r.Intn(9)
	c.L0Trigger = 1 + r.Intn(1+r.Intn(16))
	c.L0Stop = c.L0Trigger + r.Intn(17-c.L0Trigger)
	c.Fan = 1 + r.Intn(1+r.Intn(16))
	return c
}

func anyKey(r *rand.Rand) string {
	var b strings.Builder
	for range r.Intn(4) {
		b.WriteByte([]byte{0, 'a', 'b', 'c', 255}[r.Intn(5)])
	}
	return b.String()
}

// anyLevels: the tables of a version, a level's weight being around its limit.
func anyLevels(r *rand.Rand, c api.Config) [][]api.Table {
	levels := make([][]api.Table, c.Levels)
	number := uint64(r.Intn(3))
	for i := range levels {
		many := r.Intn(1 + r.Intn(2*c.L0Stop))
		if i > 0 {
			many = r.Intn(1 + r.Intn(14))
		}
		var keys []string
		for range 2 * many {
			keys = append(keys, anyKey(r))
		}
		if i > 0 {
			// Hulls of one key alone, and none that meet: each key is the end of one hull.
			slices.Sort(keys)
			keys = slices.Compact(keys)
		}
		weight := c.Base
		for range max(i-1, 0) {
			weight *= c.Mult
		}
		for len(keys) > 1 {
			a, b := min(keys[0], keys[1]), max(keys[0], keys[1])
			if r.Intn(4) == 0 {
				b, keys = a, keys[1:]
			} else {
				keys = keys[2:]
			}
			levels[i] = append(levels[i], tab(number, r.Intn(1+weight*2/(many+1)*r.Intn(3)), a, b))
			number += 1 + uint64(r.Intn(3))
		}
	}
	return levels
}

func anyPointers(r *rand.Rand, levels [][]api.Table) []string {
	pointers := make([]string, r.Intn(len(levels)+3))
	for i := range pointers {
		pointers[i] = anyKey(r)
		if i < len(levels) && len(levels[i]) > 0 && r.Intn(3) > 0 {
			t := levels[i][r.Intn(len(levels[i]))]
			pointers[i] = []string{t.Least, t.Greatest}[r.Intn(2)]
		}
	}
	return pointers
}

// anyLocked: some of the tables' numbers, and others, in any order, some twice.
func anyLocked(r *rand.Rand, levels [][]api.Table) []uint64 {
	var locked []uint64
	of := 1 + r.Intn(20)
	for _, l := range levels {
		for _, t := range l {
			if r.Intn(of) == 0 {
				locked = append(locked, t.Number)
			}
			if r.Intn(of) == 0 && r.Intn(9) == 0 {
				locked = append(locked, t.Number, 1<<63+t.Number)
			}
		}
	}
	r.Shuffle(len(locked), func(i, j int) { locked[i], locked[j] = locked[j], locked[i] })
	return locked
}
