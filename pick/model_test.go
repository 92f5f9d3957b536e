package pick

import (
	"math/big"
	"math/rand"
	"slices"
	"testing"

	"scree/api"
)

// model: what the chapter says, over plain lists, written down by looking at every one from its beginning.
type model struct {
	c        api.Config
	levels   [][]api.Table
	pointers []string
}

func (m model) scores() []int {
	var out []int
	for i := range m.c.Levels - 1 {
		has, most := big.NewInt(int64(len(m.levels[0]))), big.NewInt(int64(m.c.L0Trigger))
		if i > 0 {
			has = new(big.Int)
			for _, t := range m.levels[i] {
				has.Add(has, big.NewInt(int64(t.Weight)))
			}
			most = new(big.Int).Exp(big.NewInt(int64(m.c.Mult)), big.NewInt(int64(i-1)), nil)
			most.Mul(most, big.NewInt(int64(m.c.Base)))
		}
		out = append(out, int(has.Mul(has, big.NewInt(1000)).Div(has, most).Int64()))
	}
	return out
}

// order takes the best of those that are left, again and again.
func (m model) order() []int {
	left := m.scores()
	var out []int
	if len(m.levels[0]) >= m.c.L0Stop {
		out, left[0] = []int{0}, 0
	}
	for {
		best := -1
		for i, s := range left {
			if s >= 1000 && (best < 0 || s > left[best]) {
				best = i
			}
		}
		if best < 0 {
			return out
		}
		out, left[best] = append(out, best), 0
	}
}

func meet(a, b api.Table) bool { return !(a.Greatest < b.Least) && !(b.Greatest < a.Least) }

func (m model) inputs(level int) api.Job {
	if level < 0 || level > m.c.Levels-2 || len(m.levels[level]) == 0 {
		return api.Job{}
	}
	job := api.Job{Level: level, Upper: m.levels[level]}
	all := api.Table{Least: job.Upper[0].Least, Greatest: job.Upper[0].Greatest}
	if level == 0 {
		for _, t := range job.Upper {
			if t.Least < all.Least {
				all.Least = t.Least
			}
			if t.Greatest > all.Greatest {
				all.Greatest = t.Greatest
			}
		}
	} else {
		pointer := ""
		if level < len(m.pointers) {
			pointer = m.pointers[level]
		}
		all = job.Upper[0]
		for i := len(job.Upper) - 1; i >= 0; i-- {
			if pointer < job.Upper[i].Least {
				all = job.Upper[i]
			}
		}
		job.Upper = []api.Table{all}
	}
	for _, t := range m.levels[level+1] {
		switch {
		case !meet(t, all) || job.Cut != "":
		case level > 0 && len(job.Lower) == m.c.Fan:
			job.Cut = t.Least
		default:
			job.Lower = append(job.Lower, t)
		}
	}
	job.Move = level > 0 && len(job.Lower) == 0 && level+2 < m.c.Levels
	return job
}

func (m model) next(locked []uint64) (api.Job, int) {
	order := m.order()
	if len(order) == 0 {
		return api.Job{}, None
	}
	reserved := map[int]bool{}
	for _, level := range order {
		job := m.inputs(level)
		free := !reserved[level] && !reserved[level+1]
		for _, t := range slices.Concat(job.Upper, job.Lower) {
			free = free && !slices.Contains(locked, t.Number)
		}
		if free {
			return job, Found
		}
		reserved[level], reserved[level+1] = true, true
	}
	return api.Job{}, Blocked
}

func TestAgainstModel(t *testing.T) {
	r := rand.New(rand.NewSource(16))
	seen := map[string]int{}
	for range 20000 {
		m := model{c: anyConfig(r)}
		m.levels = anyLevels(r, m.c)
		m.pointers = anyPointers(r, m.levels)
		v := made(t, m.levels...)
		scores(t, "by the model", m.c, v, m.scores()...)
		orders(t, "by the model", m.c, v, m.order()...)
		for level := -1; level <= m.c.Levels+1; level++ {
			want := m.inputs(level)
			tellsJob(t, "by the model", m.c, v, m.pointers, level, want)
			if want.Cut != "" {
				seen["cut"]++
			}
			if want.Move {
				seen["move"]++
			}
		}
		for range 3 {
			locked := anyLocked(r, m.levels)
			want, state := m.next(locked)
			finds(t, "by the model", m.c, v, m.pointers, locked, want, state)
			seen[[]string{"none", "blocked", "found"}[state]]++
			if state == Found && want.Level != m.order()[0] {
				seen["not the first"]++
			}
		}
		if t.Failed() {
			t.Fatalf("%+v", m)
		}
	}
	for _, what := range []string{"cut", "move", "none", "blocked", "found", "not the first"} {
		if seen[what] < 500 {
			t.Errorf("the cases are too few to tell anything: %s: %d", what, seen[what])
		}
	}
}
