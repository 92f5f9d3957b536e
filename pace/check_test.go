package pace

import (
	"math"
	"math/rand"
	"reflect"
	"testing"

	"scree/api"
)

// checks holds Check to answer so.
func checks(t *testing.T, c api.Config, place int, err api.Errno) {
	t.Helper()
	if p, e := Check(c); p != place || e != err {
		t.Errorf("P15.1: %+v: %d, %d, want %d, %d", c, p, e, place, err)
	}
}

func TestCheckExample(t *testing.T) {
	var c api.Config
	for place, x := range []int{1, 1, 1, 4096, 1, 1, 1, 2, 3, 4096, 2, 2048, 1, 64, 1, 0, 1088, 1, 1088, 1, 17408, 1088, 17408, 86013, 0, 1, 4096} {
		c = set(c, place, x)
	}
	checks(t, c, 0, api.OK)
	if c != smallest() {
		t.Errorf("the tests' smallest configuration isn't that of the example: %+v", smallest())
	}
	less, more := c, c
	less.DebtStop = 86012
	checks(t, less, 23, api.ErrConfig)
	more.Flushers = 2
	checks(t, more, 7, api.ErrConfig)
}

func TestRulesAreOfTheFields(t *testing.T) {
	of := reflect.TypeOf(api.Config{})
	if of.NumField() != 27 || len(rules) != 27 {
		t.Fatalf("%d fields, %d rules", of.NumField(), len(rules))
	}
	for place, r := range rules {
		if of.Field(place).Name != r.name {
			t.Errorf("the field %d is %s, not %s", place, of.Field(place).Name, r.name)
		}
	}
}

func TestLargestAndNothing(t *testing.T) {
	checks(t, largest(), 0, api.OK)
	checks(t, slowest(), 0, api.OK)
	checks(t, api.Config{}, 0, api.ErrConfig)
}

// TestFieldsAtTheirBounds: each field at its least and greatest number, and one past them, where no other field is in its way.
func TestFieldsAtTheirBounds(t *testing.T) {
	wide := smallest()
	wide.L0Slow, wide.L0Stop, wide.Burst, wide.DebtStop = 16, 16, 1<<30, 1<<30
	for _, f := range []struct{ place, least, most int }{
		{0, 1, 8}, {1, 1, 2}, {2, 1, 3}, {3, 4096, 1 << 20}, {4, 1, 4}, {5, 1, 16}, {6, 1, 16}, {7, 16, 16},
		{8, 3, 5}, {9, 4096, 1 << 24}, {10, 2, 10}, {11, 2048, 1 << 20}, {12, 1, 16}, {13, 64, 4096}, {14, 1, 16}, {15, 0, 16},
		{16, 1088, 1 << 16}, {17, 1, 1 << 30}, {18, 1088, 1 << 30}, {19, 1, 1 << 30}, {20, 17408, 1 << 30}, {21, 1088, 1 << 20},
		{22, 17408, 1 << 24}, {23, 86013, 1 << 30}, {24, 0, 8}, {25, 1, 256}, {26, 4096, 1 << 20},
	} {
		for _, x := range []int{f.least, f.most, (f.least + f.most) / 2} {
			checks(t, set(wide, f.place, x), 0, api.OK)
		}
		for _, x := range []int{f.least - 1, f.most + 1, -1, -f.most, 1 << 40, math.MaxInt, math.MinInt} {
			checks(t, set(wide, f.place, x), f.place, api.ErrConfig)
		}
	}
}

func TestFieldsThatHangOnOthers(t *testing.T) {
	type turn = func(c *api.Config)
	for _, x := range []struct {
		turn  turn
		place int
		err   api.Errno
	}{
		{func(c *api.Config) { c.L0Trigger = 2 }, 6, api.ErrConfig},
		{func(c *api.Config) { c.L0Trigger, c.L0Slow, c.DebtStop = 2, 2, 107516 }, 0, api.OK},
		{func(c *api.Config) { c.L0Trigger, c.L0Slow = 2, 2 }, 23, api.ErrConfig},
		{func(c *api.Config) { c.L0Slow = 3 }, 7, api.ErrConfig},
		{func(c *api.Config) { c.L0Slow = 2 }, 0, api.OK},
		{func(c *api.Config) { c.L0Stop = 1 }, 7, api.ErrConfig},
		{func(c *api.Config) { c.Flushers, c.L0Stop = 2, 3 }, 0, api.OK},
		{func(c *api.Config) { c.Flushers, c.L0Slow, c.L0Stop = 2, 4, 3 }, 7, api.ErrConfig},
		{func(c *api.Config) { c.MaxChunk = 1089 }, 18, api.ErrConfig},
		{func(c *api.Config) { c.MaxChunk, c.Burst = 1089, 1089 }, 0, api.OK},
		{func(c *api.Config) { c.MaxImm = 2 }, 23, api.ErrConfig},
		{func(c *api.Config) { c.MaxImm, c.DebtStop = 2, 5*21503 }, 23, api.ErrConfig},
		{func(c *api.Config) { c.MaxImm, c.DebtStop = 2, 5*21503+1 }, 0, api.OK},
		{func(c *api.Config) { c.MemBytes = 4097 }, 23, api.ErrConfig},
		{func(c *api.Config) { c.MemBytes, c.DebtStop = 4097, 86017 }, 0, api.OK},
		{func(c *api.Config) { c.MaxGroup = 17408 }, 0, api.OK},
		{func(c *api.Config) { c.MaxGroup = 17409 }, 23, api.ErrConfig},
		{func(c *api.Config) { c.MaxGroup, c.DebtStop = 17409, 86016 }, 23, api.ErrConfig},
		{func(c *api.Config) { c.MaxGroup, c.DebtStop = 17409, 86017 }, 0, api.OK},
	} {
		c := smallest()
		x.turn(&c)
		checks(t, c, x.place, x.err)
	}
	c := largest()
	c.DebtStop = 22 * (1<<20 - 1 + 1<<20)
	checks(t, c, 23, api.ErrConfig)
	c.DebtStop++
	checks(t, c, 0, api.OK)
}

// TestTheFirstWrongField: of several the first is told, whatever the later ones are.
func TestTheFirstWrongField(t *testing.T) {
	for _, x := range []int{math.MinInt, -1, math.MaxInt} {
		c := largest()
		for place := len(rules) - 1; place >= 0; place-- {
			c = set(c, place, x)
			checks(t, c, place, api.ErrConfig)
		}
	}
}

// TestCheckOfAnyNumbers holds Check against the rules, over configurations that have up to three fields bent.
func TestCheckOfAnyNumbers(t *testing.T) {
	r := rand.New(rand.NewSource(1))
	right := 0
	for range 3000 {
		c := drawn(t, r)
		checks(t, c, 0, api.OK)
		for range r.Intn(4) {
			place := r.Intn(len(rules))
			least, most := bounds(t, c, place)
			near := []int{least - 1, least, most, most + 1, 0, math.MaxInt, math.MinInt, r.Int(), -r.Intn(99)}
			c = set(c, place, near[r.Intn(len(near))])
		}
		place, err := firstWrong(t, c)
		checks(t, c, place, err)
		if err == api.OK {
			right++
		}
	}
	if right < 600 || right > 2400 {
		t.Errorf("%d of 3000 are right: the draw says too little", right)
	}
}
