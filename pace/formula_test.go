package pace

import (
	"math"
	"math/rand"
	"slices"
	"testing"

	"scree/api"
)

// arguments: numbers at which a formula is asked.
func arguments(r *rand.Rand) []int {
	l := []int{math.MinInt, -1, 0, 1, 449, 450, 1087, 1088, 2048, 17408, 86013, 1 << 24, 1 << 30, 1 << 40, math.MaxInt / 16, math.MaxInt - 1, math.MaxInt}
	for range 6 {
		l = append(l, r.Int()>>r.Intn(63))
	}
	slices.Sort(l)
	return l
}

// same holds a call to answer what the formula of the document comes to.
func same(t *testing.T, c api.Config, name string, got int, args ...int) {
	t.Helper()
	if want := told(t, c, name, args...); got != want {
		t.Errorf("P15.5: %+v: %s of %v: %d, want %d", c, name, args, got, want)
	}
}

// agrees holds all calls of a right configuration against the formulas.
func agrees(t *testing.T, c api.Config, l []int) {
	t.Helper()
	same(t, c, "MemCap", MemCap(c))
	same(t, c, "FileCap", FileCap(c))
	same(t, c, "DebtCap", DebtCap(c))
	if got := LimitSum(c); got != limits(c) {
		t.Errorf("P15.4: %+v: LimitSum %d, want %d", c, got, limits(c))
	}
	for i, x := range l {
		same(t, c, "TF", TF(c, x), x)
		same(t, c, "TC", TC(c, x), x)
		same(t, c, "B1", B1(c, x), x)
		same(t, c, "B2", B2(c, x), x)
		y := l[(i*7+3)%len(l)]
		same(t, c, "A", Room(c, x, y), x, y)
	}
}

func TestNumbersOfTheExample(t *testing.T) {
	c := smallest()
	got := []int{MemCap(c), LimitSum(c), Limit(c, 1), Limit(c, 2), FileCap(c), DebtCap(c)}
	if !slices.Equal(got, []int{21503, 4096, 4096, 0, 3135, 103420}) {
		t.Errorf("P15.4: %v", got)
	}
}

func TestFormulasOfRightConfigurations(t *testing.T) {
	r := rand.New(rand.NewSource(4))
	agrees(t, smallest(), arguments(r))
	agrees(t, largest(), arguments(r))
	agrees(t, slowest(), arguments(r))
	for range 100 {
		agrees(t, drawn(t, r), arguments(r))
	}
}

// TestFormulasWorkedOut: numbers that were reckoned by hand from the document, not by the tests' model.
func TestFormulasWorkedOut(t *testing.T) {
	c := smallest()
	for _, x := range []struct {
		name      string
		got, want int
	}{
		{"TF(0)", TF(c, 0), 20},
		{"TF(1087)", TF(c, 1087), 20},
		{"TF(1088)", TF(c, 1088), 22},
		{"TF(21503)", TF(c, 21503), 58},
		{"TC(0)", TC(c, 0), 3297},
		{"TC(1087)", TC(c, 1087), 3297},
		{"TC(1088)", TC(c, 1088), 3297 + 1 + 1091},
		{"TC(2048)", TC(c, 2048), 3297 + 1 + 2*1091 + 2},
		{"TC(6270)", TC(c, 6270), 5 + 2 + 11*1091 + 12 + 16},
		{"Room(0, 0)", Room(c, 0, 0), 16*(4096+103420) + 5*21503 + 8192 + 131072},
		{"Room(3, 0)", Room(c, 3, 0) - Room(c, 0, 0), 12},
		{"Room(0, 3)", Room(c, 0, 3) - Room(c, 0, 0), 3},
		{"Room(greatest, 0)", Room(c, math.MaxInt, 0), math.MaxInt},
		{"Room(0, greatest)", Room(c, 0, math.MaxInt), math.MaxInt},
		{"B1(0)", B1(c, 0), worked(0)},
		{"B1(1000)", B1(c, 1000), worked(1000)},
		{"B1(86011)", B1(c, 86011), worked(86011)},
		{"B1(86012)", B1(c, 86012), worked(86012)},
		{"B1(greatest)", B1(c, math.MaxInt), worked(86012)},
		{"B2(greatest)", B2(c, math.MaxInt), math.MaxInt},
	} {
		if x.got != x.want {
			t.Errorf("P15.5: %s: %d, want %d", x.name, x.got, x.want)
		}
	}
}

// worked reckons B1 of the smallest configuration, whose numbers are far below the greatest int: one client, so D(d) is d + 17408, at most 103420.
func worked(d int) int {
	tc := func(x int) int { return x/1088 + 2 + (x/1088+x/2048+3)*1091 + 2*(x/2048+3) + 16 }
	y := 4096 + min(d+17408, 103420)
	t0 := 2*tc(6270) + 2*tc(y) + 16
	q := 17408/4096 + 1 + 2
	td := (3*y/450 + 2) * (tc(y) + tc(6270) + 58 + 8)
	return (q+2)*(t0+2) + td + 2*(t0+58+2) + 17408 + 18 + 24
}

func TestLimits(t *testing.T) {
	c := largest()
	for level, want := range []int{0, 1 << 24, 10 << 24, 100 << 24, 0, 0} {
		if got := Limit(c, level); got != want {
			t.Errorf("P15.4: Limit(%d): %d, want %d", level, got, want)
		}
	}
	if got := LimitSum(c); got != 111<<24 {
		t.Errorf("P15.4: LimitSum: %d", got)
	}
	for levels := 3; levels <= 5; levels++ {
		c.Levels = levels
		all := 0
		for _, level := range []int{math.MinInt, -1 << 32, -1, 0, levels - 1, levels, levels + 1, 1 << 32, 1<<32 + 1, math.MaxInt} {
			if got := Limit(c, level); got != 0 {
				t.Errorf("P15.4: of %d levels: Limit(%d): %d", levels, level, got)
			}
		}
		for level := 1; level <= levels-2; level++ {
			if Limit(c, level) <= 0 {
				t.Errorf("P15.4: of %d levels: Limit(%d): %d", levels, level, Limit(c, level))
			}
			all += Limit(c, level)
		}
		if got := LimitSum(c); got != all {
			t.Errorf("P15.4: of %d levels: LimitSum %d, want %d", levels, got, all)
		}
	}
}

// zero holds every formula of a configuration to be 0.
func zero(t *testing.T, c api.Config) {
	t.Helper()
	for _, x := range []int{math.MinInt, 0, 5, math.MaxInt} {
		got := []int{Limit(c, 1), Limit(c, x), LimitSum(c), MemCap(c), FileCap(c), DebtCap(c), TF(c, x), TC(c, x), B1(c, x), B2(c, x), Room(c, x, x)}
		if slices.ContainsFunc(got, func(n int) bool { return n != 0 }) {
			t.Errorf("P15.3: %+v: %v", c, got)
		}
	}
}

// TestFormulasOfWrongConfigurations: any one field that isn't right, be it one that the formula doesn't ask for, or one that it divides by.
func TestFormulasOfWrongConfigurations(t *testing.T) {
	zero(t, api.Config{})
	for _, c := range []api.Config{smallest(), largest()} {
		for place := range rules {
			least, most := bounds(t, c, place)
			for _, x := range []int{least - 1, most + 1, -1, math.MinInt, math.MaxInt} {
				zero(t, set(c, place, x))
			}
			if least > 0 {
				zero(t, set(c, place, 0))
			}
		}
	}
}

func TestNumbersBelowNoneCountAsNone(t *testing.T) {
	for _, c := range []api.Config{smallest(), largest()} {
		for _, x := range []int{-1, -450, -1 << 40, math.MinInt} {
			got := []int{TF(c, x), TC(c, x), B1(c, x), B2(c, x), Room(c, x, x), Room(c, x, 7), Room(c, 7, x)}
			want := []int{TF(c, 0), TC(c, 0), B1(c, 0), B2(c, 0), Room(c, 0, 0), Room(c, 0, 7), Room(c, 7, 0)}
			if !slices.Equal(got, want) {
				t.Errorf("P15.3: at %d: %v, want %v", x, got, want)
			}
		}
	}
}

// TestFormulasDoNotFall: at rising arguments, near ones and far ones.
func TestFormulasDoNotFall(t *testing.T) {
	r := rand.New(rand.NewSource(5))
	for i := range 200 {
		c := []api.Config{smallest(), largest(), slowest(), drawn(t, r)}[min(i, 3)]
		l := arguments(r)
		for _, x := range l {
			l = append(l, Add(x, 1), Add(x, c.MaxChunk), Add(x, c.FileBytes))
		}
		slices.Sort(l)
		other := l[r.Intn(len(l))]
		for name, f := range map[string]func(x int) int{
			"TF":             func(x int) int { return TF(c, x) },
			"TC":             func(x int) int { return TC(c, x) },
			"B1":             func(x int) int { return B1(c, x) },
			"B2":             func(x int) int { return B2(c, x) },
			"Room, its last": func(x int) int { return Room(c, other, x) },
			"Room, its x":    func(x int) int { return Room(c, x, other) },
		} {
			last := 0
			for _, x := range l {
				if f(x) < last {
					t.Errorf("P15.8: %+v: %s falls at %d from %d to %d", c, name, x, last, f(x))
				}
				last = f(x)
			}
		}
	}
}

// TestFormulasSaturate: the greatest int is answered, and nothing that wrapped round.
func TestFormulasSaturate(t *testing.T) {
	c := slowest()
	for name, got := range map[string]int{
		"TC":          TC(c, math.MaxInt),
		"B2":          B2(c, math.MaxInt),
		"B2, less":    B2(c, math.MaxInt/2),
		"Room of x":   Room(c, math.MaxInt/4, 0),
		"Room of y":   Room(c, 0, math.MaxInt-1000),
		"Room of two": Room(c, math.MaxInt/8, math.MaxInt/2),
	} {
		if got != math.MaxInt {
			t.Errorf("P15.5: %s: %d", name, got)
		}
	}
	if TF(c, math.MaxInt) >= math.MaxInt/100 || B1(c, math.MaxInt) == math.MaxInt {
		t.Errorf("P15.8: TF %d, B1 %d: they don't leave the ints", TF(c, math.MaxInt), B1(c, math.MaxInt))
	}
}
