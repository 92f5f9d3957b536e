package pick

import (
	"math"
	"math/rand"
	"slices"
	"strconv"
	"testing"

	"scree/api"
	"scree/version"
)

func TestExampleOne(t *testing.T) {
	v := made(t, example()...)
	scores(t, "example 1", conf, v, 1000, 1220, 1098)
	orders(t, "example 1", conf, v, 1, 2, 0)
}

func TestExampleTwo(t *testing.T) {
	v := made(t, example()...)
	of := func(n ...uint64) []api.Table { return byNumber(t, v, n...) }
	tellsJob(t, "level 0", conf, v, nil, 0, api.Job{Upper: of(9, 12), Lower: of(3, 4)})
	tellsJob(t, "level 1, c", conf, v, []string{"", "c"}, 1, api.Job{Level: 1, Upper: of(4), Lower: of(6, 7), Cut: "k"})
	tellsJob(t, "level 1, e", conf, v, []string{"", "e"}, 1, api.Job{Level: 1, Upper: of(5), Lower: of(10)})
	tellsJob(t, "level 1, q", conf, v, []string{"", "q"}, 1, api.Job{Level: 1, Upper: of(3), Move: true})
	tellsJob(t, "level 1, empty", conf, v, []string{"", ""}, 1, api.Job{Level: 1, Upper: of(3), Move: true})
	tellsJob(t, "level 2, empty", conf, v, []string{"x", "y", ""}, 2, api.Job{Level: 2, Upper: of(6), Lower: of(11)})
	for _, level := range []int{3, -1, 4, 5, math.MaxInt, math.MinInt} {
		tellsJob(t, "level "+strconv.Itoa(level), conf, v, nil, level, api.Job{})
	}
}

func TestExampleThree(t *testing.T) {
	v := made(t, example()...)
	pointers := []string{"", "c"}
	one := api.Job{Level: 1, Upper: byNumber(t, v, 4), Lower: byNumber(t, v, 6, 7), Cut: "k"}
	finds(t, "nothing locked", conf, v, pointers, nil, one, Found)
	finds(t, "7 locked", conf, v, pointers, []uint64{7}, api.Job{}, Blocked)
	finds(t, "9 locked", conf, v, pointers, []uint64{9}, one, Found)
}

func TestScoresAreRoundedDown(t *testing.T) {
	c := conf
	for weight, want := range map[int]int{0: 0, 1: 0, 4: 0, 5: 1, 4095: 999, 4096: 1000, 4100: 1000, 4101: 1001, 1 << 50: 1000 << 38} {
		scores(t, "of level 1", c, made(t, nil, []api.Table{tab(1, weight, "a", "b")}, nil, nil), 0, want, 0)
		scores(t, "of level 2", c, made(t, nil, nil, []api.Table{tab(1, weight*2, "a", "b")}, nil), 0, 0, want)
	}
	scores(t, "the last level has none", c, made(t, nil, nil, nil, []api.Table{tab(1, 1<<50, "a", "b")}), 0, 0, 0)
	c.L0Trigger = 3
	for n, want := range []int{0, 333, 666, 1000, 1333, 1666, 2000} {
		scores(t, "of level 0", c, made(t, example0(n), nil, nil, nil), want, 0, 0)
	}
	c = api.Config{L0Trigger: 16, L0Stop: 16, Levels: 5, Base: 1 << 24, Mult: 10, Fan: 16}
	v := made(t, example0(15), []api.Table{tab(20, 1<<24-1, "a", "b")}, []api.Table{tab(21, 10<<24, "a", "b")}, []api.Table{tab(22, 100<<24-1, "a", "b")}, nil)
	scores(t, "the greatest limits", c, v, 937, 999, 1000, 999)
	orders(t, "the greatest limits", c, v, 2)
}

// example0: so many tables of level 0.
func example0(n int) []api.Table {
	var out []api.Table
	for i := range n {
		out = append(out, tab(100+uint64(i), 450, "m", "n"))
	}
	return out
}

func TestOrderOfEqualScores(t *testing.T) {
	one, two := tab(1, 8192, "a", "b"), tab(2, 16384, "a", "b")
	orders(t, "all have 2000", conf, made(t, nil, []api.Table{one}, []api.Table{two}, nil), 1, 2)
	c := conf
	c.L0Stop = 5
	orders(t, "all have 2000, level 0 too", c, made(t, example0(4), []api.Table{one}, []api.Table{two}, nil), 0, 1, 2)
	orders(t, "level 0 has less", c, made(t, example0(3), []api.Table{one}, []api.Table{two}, nil), 1, 2, 0)
	two.Weight += 17
	orders(t, "level 2 has more", c, made(t, example0(4), []api.Table{one}, []api.Table{two}, nil), 2, 0, 1)
}

func TestOrderAtTheStop(t *testing.T) {
	levels := example()
	levels[1][0].Weight = 1 << 40
	for n, want := range [][]int{{1, 2}, {1, 2}, {1, 2, 0}, {1, 0, 2}, {0, 1, 2}, {0, 1, 2}} {
		levels[0] = example0(n)
		orders(t, strconv.Itoa(n)+" tables of level 0", conf, made(t, levels...), want...)
	}
	c := conf
	c.L0Trigger, c.L0Stop = 1, 1
	orders(t, "a stop at the trigger", c, made(t, example0(1), nil, nil, nil), 0)
	orders(t, "none", c, made(t, nil, nil, nil, nil))
	orders(t, "a last level wants nothing", c, made(t, nil, nil, nil, []api.Table{tab(1, 1<<50, "a", "b")}))
}

func TestInputsOfLevelZero(t *testing.T) {
	upper := []api.Table{tab(8, 1, "m", "p"), tab(7, 1, "f", "g"), tab(9, 1, "n", "n")}
	lower := []api.Table{tab(1, 1, "a", "e"), tab(2, 1, "ef", "f"), tab(3, 1, "h", "i"), tab(4, 1, "o", "o"), tab(5, 1, "p", "q"), tab(6, 1, "p\x00", "r")}
	lower[4].Greatest = "p"
	v := made(t, upper, lower, lower2(), nil)
	c := conf
	c.Fan = 1
	tellsJob(t, "all that meet the hull, however many", c, v, []string{"z", "z"}, 0, api.Job{Upper: upper, Lower: lower[1:5]})
	tellsJob(t, "nothing below, and no move", c, made(t, upper, nil, lower2(), nil), nil, 0, api.Job{Upper: upper})
	tellsJob(t, "no table", c, made(t, nil, lower, nil, nil), nil, 0, api.Job{})
	tellsJob(t, "a table of zeros is one", c, made(t, []api.Table{{}}, nil, nil, nil), nil, 0, api.Job{Upper: []api.Table{{}}})
}

// lower2: tables of a level that no job of level 0 may take.
func lower2() []api.Table { return []api.Table{tab(50, 1, "a", "z")} }

func TestInputsBehindThePointer(t *testing.T) {
	level := []api.Table{tab(1, 1, "b", "c"), tab(2, 1, "d", "d"), tab(3, 1, "e", "h"), tab(4, 1, "h\x00", "z")}
	v := made(t, nil, level, nil, nil)
	for pointer, want := range map[string]int{"": 0, "a": 0, "a\xff": 0, "b": 1, "c": 1, "c\xff": 1, "d": 2, "d\x00": 2, "e": 3, "h": 3, "h\x00": 0, "z": 0, "\xff": 0} {
		tellsJob(t, "behind "+strconv.Quote(pointer), conf, v, []string{"d", pointer, "d", "d", "d", "d"}, 1, api.Job{Level: 1, Upper: level[want : want+1], Move: true})
	}
	tellsJob(t, "no pointers", conf, v, nil, 1, api.Job{Level: 1, Upper: level[:1], Move: true})
	tellsJob(t, "too few pointers", conf, v, []string{"d"}, 1, api.Job{Level: 1, Upper: level[:1], Move: true})
	tellsJob(t, "no table", conf, v, nil, 2, api.Job{})
	empty := []api.Table{tab(1, 1, "", ""), tab(2, 1, "a", "b")}
	tellsJob(t, "the empty key isn't above the empty pointer", conf, made(t, nil, empty, nil, nil), nil, 1, api.Job{Level: 1, Upper: empty[1:], Move: true})
	zero := make([]api.Table, 1)
	tellsJob(t, "a table of zeros is one", conf, made(t, nil, zero, nil, nil), nil, 1, api.Job{Level: 1, Upper: zero, Move: true})
}

func TestInputsFanAndCut(t *testing.T) {
	upper := []api.Table{tab(1, 1, "c", "m")}
	lower := []api.Table{tab(2, 1, "a", "b\xff"), tab(3, 1, "b\xff\xff", "c"), tab(4, 1, "d", "d"), tab(5, 1, "e", "f"), tab(6, 1, "m", "n"), tab(7, 1, "n\x00", "o")}
	v := made(t, nil, upper, lower, nil)
	for fan, cut := range map[int]string{1: "d", 2: "e", 3: "m", 4: "", 5: "", 16: ""} {
		c := conf
		c.Fan = fan
		tellsJob(t, "Fan "+strconv.Itoa(fan), c, v, nil, 1, api.Job{Level: 1, Upper: upper, Lower: lower[1:][:min(fan, 4)], Cut: cut})
	}
}

func TestMove(t *testing.T) {
	upper := []api.Table{tab(1, 1, "c", "m")}
	beside := []api.Table{tab(2, 1, "a", "b"), tab(3, 1, "n", "z")}
	at := func(level, levels int) *version.Version {
		l := make([][]api.Table, levels)
		l[level], l[level+1] = upper, beside
		return made(t, l...)
	}
	for levels := 3; levels <= 5; levels++ {
		c := conf
		c.Levels = levels
		for level := 1; level < levels-1; level++ {
			tellsJob(t, "level "+strconv.Itoa(level)+" of "+strconv.Itoa(levels), c, at(level, levels), nil, level, api.Job{Level: level, Upper: upper, Move: level+1 < levels-1})
		}
	}
}

func TestNextLocks(t *testing.T) {
	v := made(t, example()...)
	pointers := []string{"", "c"}
	one := api.Job{Level: 1, Upper: byNumber(t, v, 4), Lower: byNumber(t, v, 6, 7), Cut: "k"}
	for _, n := range []uint64{3, 5, 8, 9, 10, 11, 12, 0, 1, math.MaxUint64} {
		finds(t, "a lock beside the job: "+strconv.FormatUint(n, 10), conf, v, pointers, []uint64{n, 2, n, 0}, one, Found)
	}
	for _, n := range []uint64{4, 6, 7} {
		finds(t, "a lock of the job: "+strconv.FormatUint(n, 10), conf, v, pointers, []uint64{50, n, 1, n, 60}, api.Job{}, Blocked)
	}
	empty := made(t, nil, nil, nil, nil)
	finds(t, "nothing wants it", conf, empty, pointers, []uint64{1}, api.Job{}, None)
	finds(t, "nothing wants it, though there are tables", conf, made(t, example0(1), lower2(), nil, nil), nil, []uint64{50}, api.Job{}, None)
}

// TestNextReserves: five levels, so that a blocked one leaves others that share no level with it.
func TestNextReserves(t *testing.T) {
	c := api.Config{L0Trigger: 1, L0Stop: 9, Levels: 5, Base: 4096, Mult: 2, Fan: 2}
	levels := func(w0, w1, w2, w3 int) *version.Version {
		return made(t, example0(w0), []api.Table{tab(1, w1, "a", "b")}, []api.Table{tab(2, w2, "a", "b")}, []api.Table{tab(3, w3, "a", "b")}, []api.Table{tab(4, 9, "a", "b")})
	}
	v := levels(1, 8192, 8192, 65536)
	orders(t, "reserves", c, v, 3, 1, 0, 2)
	job := func(level int) api.Job {
		j, ok := Inputs(c, v, nil, level)
		if !ok {
			t.Fatalf("P16.3: no job of level %d", level)
		}
		return j
	}
	finds(t, "3 is free", c, v, nil, []uint64{1, 2, 100}, job(3), Found)
	finds(t, "3 is locked, 1 shares no level with it", c, v, nil, []uint64{4}, job(1), Found)
	finds(t, "3 and 1 are locked, 0 shares level 1", c, v, nil, []uint64{4, 1}, api.Job{}, Blocked)
	finds(t, "by a lock below 1 too", c, v, nil, []uint64{3, 2}, api.Job{}, Blocked)
	v = levels(1, 4000, 16384, 8192)
	orders(t, "reserves", c, v, 2, 0)
	finds(t, "2 is locked, 0 shares no level with it", c, v, nil, []uint64{2}, job(0), Found)
	v = levels(1, 8191, 16384, 8192)
	orders(t, "reserves", c, v, 2, 1, 0)
	finds(t, "2 is locked, 1 is reserved and reserves, so 0 isn't free", c, v, nil, []uint64{3}, api.Job{}, Blocked)
	v = levels(9, 4096, 4096, 16384)
	orders(t, "reserves", c, v, 0, 1, 3)
	finds(t, "0 at its stop is locked, 1 is reserved, 3 is free", c, v, nil, []uint64{108}, job(3), Found)
	v = levels(1, 100, 16384, 32768)
	orders(t, "reserves", c, v, 2, 3, 0)
	finds(t, "2 is locked, 3 is reserved, 0 is free", c, v, nil, []uint64{2}, job(0), Found)
}

// TestWhatAJobIs holds jobs to what the chapter says they are for, without asking which ones they are.
func TestWhatAJobIs(t *testing.T) {
	r := rand.New(rand.NewSource(165))
	for range 10000 {
		c := anyConfig(r)
		levels := anyLevels(r, c)
		v := made(t, levels...)
		pointers := anyPointers(r, levels)
		for level := range c.Levels - 1 {
			if job, ok := Inputs(c, v, pointers, level); ok {
				holdJob(t, c, levels, job)
			}
		}
		locked := anyLocked(r, levels)
		if job, state := Next(c, v, pointers, locked); state == Found {
			holdFound(t, c, v, pointers, locked, job)
		}
		if t.Failed() {
			t.Fatal(c, levels, pointers, locked)
		}
	}
}

func holdJob(t *testing.T, c api.Config, levels [][]api.Table, job api.Job) {
	t.Helper()
	if len(job.Upper) == 0 || job.Level > 0 && (len(job.Upper) != 1 || len(job.Lower) > c.Fan) {
		t.Errorf("P16.5: %v: so many tables", job)
	}
	for _, x := range job.Upper {
		if !slices.Contains(levels[job.Level], x) {
			t.Errorf("P16.5: %v: %v isn't of the level", job, x)
		}
	}
	for _, x := range job.Lower {
		if !slices.Contains(levels[job.Level+1], x) {
			t.Errorf("P16.5: %v: %v isn't of the next level", job, x)
		}
	}
	hull := job.Upper[0]
	for _, x := range job.Upper {
		hull.Least, hull.Greatest = min(hull.Least, x.Least), max(hull.Greatest, x.Greatest)
	}
	for _, x := range levels[job.Level+1] {
		wanted := meet(x, hull) && (job.Cut == "" || x.Least < job.Cut)
		if slices.Contains(job.Lower, x) != wanted {
			t.Errorf("P16.5: %v: %v in Lower: %v", job, x, !wanted)
		}
	}
	if job.Cut != "" && (job.Level == 0 || job.Cut <= hull.Least || job.Cut > hull.Greatest) {
		t.Errorf("P16.5: %v: the cut", job)
	}
}

func holdFound(t *testing.T, c api.Config, v *version.Version, pointers []string, locked []uint64, job api.Job) {
	t.Helper()
	order := Order(c, v)
	place := slices.Index(order, job.Level)
	if told, ok := Inputs(c, v, pointers, job.Level); place < 0 || !ok || !equal(told, job) {
		t.Errorf("P16.6: %v: Inputs doesn't tell it of a level that wants it", job)
		return
	}
	for _, x := range slices.Concat(job.Upper, job.Lower) {
		if slices.Contains(locked, x.Number) {
			t.Errorf("P16.6: %v: %d is locked", job, x.Number)
		}
	}
	for _, ahead := range order[:place] {
		if ahead >= job.Level-1 && ahead <= job.Level+1 {
			t.Errorf("P16.6: %v: level %d is ahead of it, and isn't free", job, ahead)
		}
	}
}

func TestRoundRobin(t *testing.T) {
	r := rand.New(rand.NewSource(167))
	for range 3000 {
		c := anyConfig(r)
		levels := anyLevels(r, c)
		v := made(t, levels...)
		pointers := append(anyPointers(r, levels), make([]string, c.Levels)...)
		level := 1 + r.Intn(c.Levels-2)
		told := map[uint64]int{}
		for range levels[level] {
			job, ok := Inputs(c, v, pointers, level)
			if !ok {
				t.Fatalf("P16.7: no job")
			}
			told[job.Upper[0].Number]++
			pointers[level] = job.Upper[0].Greatest
		}
		for _, x := range levels[level] {
			if told[x.Number] != 1 {
				t.Fatalf("P16.7: table %d of level %d was told %d times: %v", x.Number, level, told[x.Number], levels[level])
			}
		}
	}
}

// spoil writes over all of a list, its spare room too.
func spoil[T any](l []T, with T) {
	l = l[:cap(l)]
	for i := range l {
		l[i] = with
	}
}

// TestAnswersAreNew: what is answered may be written over, and shows nowhere; what is handed in stays as it is.
func TestAnswersAreNew(t *testing.T) {
	r := rand.New(rand.NewSource(3))
	other := tab(999, 77, "x", "y")
	for range 500 {
		m := model{c: anyConfig(r)}
		m.levels = anyLevels(r, m.c)
		m.pointers = anyPointers(r, m.levels)
		v := made(t, m.levels...)
		locked := append(anyLocked(r, m.levels), 5, 4, 3)[:1]
		for range 2 {
			pointers, locks := slices.Clone(m.pointers), slices.Clone(locked[:cap(locked)])
			want, state := m.next(locked)
			job, got := Next(m.c, v, m.pointers, locked)
			if !equal(job, want) || got != state || !slices.Equal(pointers, m.pointers) || !slices.Equal(locks, locked[:cap(locked)]) {
				t.Fatalf("P16.4: something was touched: %v, %d", job, got)
			}
			spoil(job.Upper, other)
			if !slices.Equal(job.Lower, want.Lower) {
				t.Fatalf("P16.4: Lower shares Upper's memory")
			}
			spoil(job.Lower, other)
			for level := range m.c.Levels - 1 {
				tellsJob(t, "asked again", m.c, v, m.pointers, level, m.inputs(level))
				job, _ := Inputs(m.c, v, m.pointers, level)
				spoil(job.Upper, other)
				spoil(job.Lower, other)
			}
			order, all := Order(m.c, v), Scores(m.c, v)
			if !slices.Equal(order, m.order()) || !slices.Equal(all, m.scores()) {
				t.Fatalf("P16.1, P16.2: something was touched: %v, %v", order, all)
			}
			spoil(order, 7)
			spoil(all, 7)
		}
		for i, l := range m.levels {
			if !slices.Equal(v.Tables(i), l) {
				t.Fatalf("the version has changed: level %d: %v", i, v.Tables(i))
			}
		}
	}
}

// TestAnyArguments: every call ends, whatever it is given.
func TestAnyArguments(t *testing.T) {
	r := rand.New(rand.NewSource(1))
	numbers := []int{math.MinInt, math.MinInt + 1, -1 << 40, -7, -1, 0, 1, 2, 3, 5, 6, 100, 1 << 33, 1 << 62, math.MaxInt}
	extreme := func() int { return numbers[r.Intn(len(numbers))] }
	for range 30000 {
		right := anyConfig(r)
		levels := anyLevels(r, right)
		for _, l := range levels {
			for i := range l {
				if r.Intn(3) == 0 {
					l[i].Weight = extreme()
				}
			}
		}
		c := api.Config{L0Trigger: extreme(), L0Stop: extreme(), Levels: extreme(), Base: extreme(), Mult: extreme(), Fan: extreme()}
		if r.Intn(2) == 0 {
			c.Levels = r.Intn(8)
		}
		if r.Intn(4) == 0 {
			levels = levels[:1+r.Intn(2)]
		}
		v := made(t, levels...)
		Scores(c, v)
		Order(c, v)
		for _, level := range append(numbers, 4) {
			Inputs(c, v, anyPointers(r, levels), level)
		}
		Next(c, v, anyPointers(r, levels), anyLocked(r, levels))
	}
}

// TestSame: each part of a job counts, a table as a whole.
func TestSame(t *testing.T) {
	a := api.Job{Level: 1, Upper: []api.Table{tab(1, 2, "a", "b")}, Lower: []api.Table{tab(3, 4, "a", "c")}, Cut: "b", Move: true}
	if !same(a, a) || !same(api.Job{}, api.Job{Upper: []api.Table{}}) {
		t.Errorf("P16.4: a job isn't the same as itself")
	}
	others := []api.Job{a, a, a, a, a, a, a, {}}
	others[0].Level = 2
	others[1].Upper = nil
	others[2].Upper = a.Lower
	others[3].Lower = nil
	others[4].Lower = []api.Table{tab(3, 5, "a", "c")}
	others[5].Cut = ""
	others[6].Move = false
	for i, b := range others {
		if same(a, b) || same(b, a) {
			t.Errorf("P16.4: a job is the same as one that differs: %d", i)
		}
	}
	if same(api.Job{Upper: make([]api.Table, 1)}, api.Job{}) {
		t.Errorf("P16.4: a job of one table of zeros is the zero job")
	}
}
