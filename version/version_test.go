package version

import (
	"math"
	"slices"
	"testing"

	"scree/api"
)

// begun: the set of the chapter's first example.
func begun(t *testing.T) *Set {
	t.Helper()
	s := New(3)
	tells(t, "P13.2: example 1", applied(t, s, api.Edit{In: []api.Placed{in(0, 1, "a", "c"), in(0, 2, "b", "d"), in(1, 3, "a", "b")}}))
	return s
}

func TestExampleOne(t *testing.T) {
	v := begun(t).Current()
	has(t, "P13.4: Tables(0)", v.Tables(0), 1, 2)
	has(t, "P13.4: Holds(0, b)", v.Holds(0, "b"), 2, 1)
	has(t, "P13.4: Holds(1, b)", v.Holds(1, "b"), 3)
	has(t, "P13.4: Overlap(0, d, z)", v.Overlap(0, "d", "z"), 2)
	has(t, "P13.4: Overlap(1, c, z)", v.Overlap(1, "c", "z"))
	has(t, "P13.4: Tables(3)", v.Tables(3))
	has(t, "P13.4: Tables(-1)", v.Tables(-1))
}

// TestNoSuchLevel: behind the last one, ahead of the first one, and far away.
func TestNoSuchLevel(t *testing.T) {
	for levels := 1; levels <= api.MaxLevels; levels++ {
		s := New(levels)
		for i := range levels {
			applied(t, s, api.Edit{In: []api.Placed{in(i, uint64(i), "", "z")}})
		}
		v := s.Current()
		for _, level := range []int{-1, levels, levels + 1, math.MinInt, math.MaxInt} {
			if len(v.Tables(level)) != 0 || v.Weight(level) != 0 || len(v.Overlap(level, "", "z")) != 0 || len(v.Holds(level, "a")) != 0 {
				t.Errorf("P13.4: of %d levels: level %d has something", levels, level)
			}
		}
		for i := range levels {
			has(t, "P13.4: Holds", v.Holds(i, "a"), uint64(i))
		}
	}
}

// TestHullsEdges asks at the ends of hulls and right beside them, where keys begin one another too.
func TestHullsEdges(t *testing.T) {
	s := New(2)
	applied(t, s, api.Edit{In: []api.Placed{in(1, 1, "b", "d"), in(1, 2, "d\x00", "d\x00"), in(1, 3, "f", "h"), in(0, 4, "b", "d"), in(0, 5, "d", "f"), in(0, 6, "", "")}})
	v := s.Current()
	for _, c := range []struct {
		level    int
		from, to string
		want     []uint64
	}{
		{1, "b", "b", []uint64{1}}, {1, "d", "d", []uint64{1}}, {1, "a", "b", []uint64{1}}, {1, "a", "a\xff", nil},
		{1, "d\x00", "d\x00", []uint64{2}}, {1, "d", "d\x00", []uint64{1, 2}}, {1, "d\x00\x00", "e\xff", nil},
		{1, "d\x01", "f", []uint64{3}}, {1, "h", "z", []uint64{3}}, {1, "h\x00", "z", nil}, {1, "", "\xff", []uint64{1, 2, 3}}, {1, "", "", nil},
		{1, "c", "b", []uint64{1}}, {1, "z", "a", nil}, {1, "g", "e", nil}, {1, "h", "b", nil},
		{0, "d", "d", []uint64{4, 5}}, {0, "", "", []uint64{6}}, {0, "", "b", []uint64{4, 6}}, {0, "\x00", "a\xff", nil}, {0, "c", "e", []uint64{4, 5}},
	} {
		has(t, "P13.4: Overlap of "+c.from+" to "+c.to, v.Overlap(c.level, c.from, c.to), c.want...)
	}
	for _, c := range []struct {
		level int
		key   string
		want  []uint64
	}{
		{1, "b", []uint64{1}}, {1, "d", []uint64{1}}, {1, "d\x00", []uint64{2}}, {1, "d\x00\x00", nil}, {1, "e", nil}, {1, "a\xff", nil}, {1, "h", []uint64{3}}, {1, "h\x00", nil}, {1, "", nil},
		{0, "d", []uint64{5, 4}}, {0, "b", []uint64{4}}, {0, "f", []uint64{5}}, {0, "", []uint64{6}}, {0, "\x00", nil}, {0, "f\x00", nil},
	} {
		has(t, "P13.4: Holds of "+c.key, v.Holds(c.level, c.key), c.want...)
	}
}

// TestBytesAreCompared: not runes, and not letters of a language.
func TestBytesAreCompared(t *testing.T) {
	s := New(2)
	applied(t, s, api.Edit{In: []api.Placed{in(1, 1, "\xff", "\xff\xff"), in(1, 2, "B", "Z"), in(1, 3, "a", "é"), in(1, 4, "\xf0\x90\x80\x80", "\xf0\x9f"), in(1, 5, "\xef\xbf\xbd", "\xef\xbf\xbd")}})
	has(t, "P13.2: byte by byte", s.Current().Tables(1), 2, 3, 5, 4, 1)
}

// TestWeightsAsGoAdds: past the greatest int the sum goes round.
func TestWeightsAsGoAdds(t *testing.T) {
	s := New(1)
	heavy := func(n uint64, w int) api.Placed { return api.Placed{Table: api.Table{Number: n, Weight: w}} }
	applied(t, s, api.Edit{In: []api.Placed{heavy(1, math.MaxInt), heavy(2, 3), heavy(3, -1)}})
	if w := s.Current().Weight(0); w != math.MinInt+1 {
		t.Errorf("P13.4: Weight: %d", w)
	}
}

// TestTablesAreCarried: what a table says of itself besides comes out as it came in, whatever it is.
func TestTablesAreCarried(t *testing.T) {
	odd := api.Table{Number: math.MaxUint64, Weight: math.MinInt, Bytes: -5, Entries: math.MaxInt, Least: "", Greatest: string(make([]byte, 300))}
	zero := api.Table{}
	s := New(2)
	applied(t, s, api.Edit{In: []api.Placed{{Level: 1, Table: odd}, {Table: zero}}})
	v := s.Current()
	for what, got := range map[string][]api.Table{"Tables": v.Tables(1), "Overlap": v.Overlap(1, "", ""), "Holds": v.Holds(1, "")} {
		if !slices.Equal(got, []api.Table{odd}) {
			t.Errorf("P13.4: %s: %v", what, got)
		}
	}
	if got := v.Tables(0); !slices.Equal(got, []api.Table{zero}) {
		t.Errorf("P13.4: a table of zeros: %v", got)
	}
	tells(t, "P13.2: numbers of both ends", applied(t, s, api.Edit{Out: []api.Place{out(1, math.MaxUint64), out(0, 0)}}), 0, math.MaxUint64)
}

// TestAnswersAreNew: whatever is done with an answer, its spare room too, no other one tells.
func TestAnswersAreNew(t *testing.T) {
	s := New(2)
	applied(t, s, api.Edit{In: []api.Placed{in(0, 1, "a", "c"), in(0, 2, "b", "d"), in(0, 3, "b", "d"), in(1, 4, "a", "b"), in(1, 5, "c", "d")}, Pointers: []string{"p", "q"}})
	v := s.Current()
	want := v.Tables(0)
	second := v.Tables(1)
	asks := func() [][]api.Table {
		return [][]api.Table{v.Tables(0), v.Tables(1), v.Overlap(0, "", "z"), v.Overlap(1, "", "z"), v.Holds(0, "b"), v.Holds(1, "a"), v.Overlap(0, "d", "d")}
	}
	before := asks()
	for _, l := range asks() {
		l = l[:cap(l)]
		for i := range l {
			l[i] = tab(99, "x", "y")
		}
	}
	for i, l := range asks() {
		if !slices.Equal(l, before[i]) {
			t.Errorf("P13.5: answer %d was touched: %v, want %v", i, l, before[i])
		}
	}
	p := s.Pointers()
	p = p[:cap(p)]
	for i := range p {
		p[i] = "other"
	}
	if got := s.Pointers(); !slices.Equal(got, []string{"p", "q"}) {
		t.Errorf("the rules: the pointers were touched: %q", got)
	}
	applied(t, s, api.Edit{In: []api.Placed{in(0, 6, "a", "z"), in(1, 7, "x", "x")}})
	sameVersion(t, "the version of before", v, [][]api.Table{want, second})
	has(t, "P13.2: the next one", s.Current().Tables(0), 1, 2, 3, 6)
}
