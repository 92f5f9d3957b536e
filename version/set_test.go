package version

import (
	"math"
	"math/rand"
	"slices"
	"strconv"
	"testing"

	"scree/api"
)

func TestNewLevels(t *testing.T) {
	for levels, want := range map[int]int{math.MinInt: 1, -1: 1, 0: 1, 1: 1, 2: 2, 3: 3, 4: 4, 5: 5, 6: 5, 7: 5, math.MaxInt: 5} {
		s := New(levels)
		sameVersion(t, "New("+strconv.Itoa(levels)+")", s.Current(), make([][]api.Table, want))
		if got := s.Pointers(); !slices.Equal(got, make([]string, want)) {
			t.Errorf("P13.1: New(%d): pointers %q", levels, got)
		}
		tells(t, "P13.1: a pin is there", s.Unpin(s.Current()))
		if s.Pin(); len(s.Unpin(s.Current())) != 0 || s.Current().Levels() != want {
			t.Errorf("P13.1: New(%d): a pin of the empty version", levels)
		}
	}
}

func TestExampleTwo(t *testing.T) {
	s := begun(t)
	p := s.Pin()
	tells(t, "P13.2: example 2", applied(t, s, api.Edit{Out: []api.Place{out(0, 1), out(1, 3)}, In: []api.Placed{in(1, 4, "a", "c")}}))
	has(t, "P13.5: p's level 0", p.Tables(0), 1, 2)
	has(t, "P13.5: p's level 1", p.Tables(1), 3)
	has(t, "P13.2: level 0", s.Current().Tables(0), 2)
	has(t, "P13.2: level 1", s.Current().Tables(1), 4)
	tells(t, "P13.3: Unpin(p)", s.Unpin(p), 1, 3)
	tells(t, "P13.3: Unpin(p) once more", s.Unpin(p))
	has(t, "P13.5: p's level 1, unpinned", p.Tables(1), 3)
}

// exampleThree: the set behind the chapter's second example.
func exampleThree(t *testing.T) *Set {
	t.Helper()
	s := New(3)
	applied(t, s, api.Edit{In: []api.Placed{in(0, 2, "b", "d"), in(1, 4, "a", "c")}, Pointers: []string{"x", "y", "z"}})
	return s
}

// refused holds an edit to be answered with an error, and nothing to have changed.
func refused(t *testing.T, what string, s *Set, e api.Edit, want api.Errno) {
	t.Helper()
	before, pointers := s.Current(), s.Pointers()
	var levels [][]api.Table
	for i := range before.Levels() {
		levels = append(levels, before.Tables(i))
	}
	if gone, err := s.Apply(e); err != want || len(gone) != 0 {
		t.Errorf("P13.2: %s: %v, %d, want %d", what, gone, err, want)
	}
	if s.Current() != before || !slices.Equal(s.Pointers(), pointers) {
		t.Errorf("P13.2: %s: it was refused, and something has changed", what)
	}
	sameVersion(t, what, s.Current(), levels)
}

func TestExampleThree(t *testing.T) {
	none := []string{"", "", ""}
	places := func(l ...api.Place) []api.Place { return l }
	for what, c := range map[string]struct {
		e    api.Edit
		want api.Errno
	}{
		"overlapping":            {api.Edit{Out: places(out(0, 2)), In: []api.Placed{in(1, 2, "b", "d")}, Pointers: none}, api.ErrVersionOrder},
		"out of another level":   {api.Edit{Out: places(out(1, 2)), Pointers: none}, api.ErrVersionNone},
		"out twice":              {api.Edit{Out: places(out(0, 2), out(0, 2)), Pointers: none}, api.ErrVersionNone},
		"in, and there":          {api.Edit{In: []api.Placed{in(2, 4, "x", "y")}, Pointers: none}, api.ErrVersionTwice},
		"in to no level":         {api.Edit{In: []api.Placed{in(3, 9, "x", "y")}, Pointers: none}, api.ErrVersionLevel},
		"two pointers":           {api.Edit{Pointers: none[:2]}, api.ErrVersionLevel},
		"without a hull":         {api.Edit{In: []api.Placed{in(0, 9, "b", "a")}, Pointers: none}, api.ErrVersionOrder},
		"four pointers":          {api.Edit{Pointers: make([]string, 4)}, api.ErrVersionLevel},
		"no pointers":            {api.Edit{}, api.ErrVersionLevel},
		"in below level 0":       {api.Edit{In: []api.Placed{in(-1, 9, "x", "y")}, Pointers: none}, api.ErrVersionLevel},
		"out of no level":        {api.Edit{Out: places(out(3, 2)), Pointers: none}, api.ErrVersionLevel},
		"out below level 0":      {api.Edit{Out: places(out(-1, 2)), Pointers: none}, api.ErrVersionLevel},
		"in twice, two levels":   {api.Edit{In: []api.Placed{in(0, 9, "x", "y"), in(2, 9, "x", "y")}, Pointers: none}, api.ErrVersionTwice},
		"without a hull, deeper": {api.Edit{In: []api.Placed{in(2, 9, "b", "a")}, Pointers: none}, api.ErrVersionOrder},
		"one key in common":      {api.Edit{In: []api.Placed{in(1, 9, "c", "d")}, Pointers: none}, api.ErrVersionOrder},
		"one key, ahead":         {api.Edit{In: []api.Placed{in(1, 9, "", "a")}, Pointers: none}, api.ErrVersionOrder},
		"within":                 {api.Edit{In: []api.Placed{in(1, 9, "b", "b")}, Pointers: none}, api.ErrVersionOrder},
		"around":                 {api.Edit{In: []api.Placed{in(1, 9, "", "z")}, Pointers: none}, api.ErrVersionOrder},
		"the same hull":          {api.Edit{In: []api.Placed{in(1, 9, "a", "c")}, Pointers: none}, api.ErrVersionOrder},
		"new ones overlapping":   {api.Edit{In: []api.Placed{in(2, 8, "a", "m"), in(2, 9, "m", "z")}, Pointers: none}, api.ErrVersionOrder},
		"around two":             {api.Edit{In: []api.Placed{in(2, 7, "c", "d"), in(2, 8, "a", "z"), in(2, 9, "e", "f")}, Pointers: none}, api.ErrVersionOrder},
	} {
		refused(t, what, exampleThree(t), c.e, c.want)
	}
	s := exampleThree(t)
	tells(t, "P13.2: a move", applied(t, s, api.Edit{Out: places(out(1, 4)), In: []api.Placed{in(2, 4, "a", "c")}}))
	has(t, "P13.2: a move, from", s.Current().Tables(1))
	has(t, "P13.2: a move, to", s.Current().Tables(2), 4)
}

// TestWhichErrorIsFirst: each edit has the wanted error and one that stands behind it in the chapter, laid ahead of it where it can be.
func TestWhichErrorIsFirst(t *testing.T) {
	none := []string{"", "", ""}
	bad := in(0, 9, "b", "a")
	for what, c := range map[string]struct {
		e    api.Edit
		want api.Errno
	}{
		"pointers, ahead of out":          {api.Edit{Out: []api.Place{out(1, 77)}}, api.ErrVersionLevel},
		"pointers, ahead of in":           {api.Edit{In: []api.Placed{bad}}, api.ErrVersionLevel},
		"pointers, ahead of overlapping":  {api.Edit{In: []api.Placed{in(1, 9, "a", "a")}}, api.ErrVersionLevel},
		"out: none, ahead of out: level":  {api.Edit{Out: []api.Place{out(0, 77), out(9, 2)}, Pointers: none}, api.ErrVersionNone},
		"out: level, ahead of out: none":  {api.Edit{Out: []api.Place{out(9, 77), out(0, 77)}, Pointers: none}, api.ErrVersionLevel},
		"out, ahead of in":                {api.Edit{Out: []api.Place{out(0, 77)}, In: []api.Placed{in(9, 2, "a", "a")}, Pointers: none}, api.ErrVersionNone},
		"in: level, ahead of twice":       {api.Edit{In: []api.Placed{in(9, 2, "b", "a")}, Pointers: none}, api.ErrVersionLevel},
		"in: twice, ahead of no hull":     {api.Edit{In: []api.Placed{in(0, 2, "b", "a")}, Pointers: none}, api.ErrVersionTwice},
		"in: no hull, ahead of level":     {api.Edit{In: []api.Placed{bad, in(9, 8, "a", "a")}, Pointers: none}, api.ErrVersionOrder},
		"in: no hull, ahead of twice":     {api.Edit{In: []api.Placed{bad, in(0, 2, "a", "a")}, Pointers: none}, api.ErrVersionOrder},
		"in: twice, ahead of level":       {api.Edit{In: []api.Placed{in(0, 2, "a", "a"), in(9, 8, "a", "a")}, Pointers: none}, api.ErrVersionTwice},
		"in: twice, ahead of overlapping": {api.Edit{In: []api.Placed{in(1, 9, "a", "a"), in(0, 9, "a", "a")}, Pointers: none}, api.ErrVersionTwice},
		"in: level, ahead of overlapping": {api.Edit{In: []api.Placed{in(1, 9, "a", "a"), in(3, 8, "a", "a")}, Pointers: none}, api.ErrVersionLevel},
	} {
		refused(t, what, exampleThree(t), c.e, c.want)
	}
}

// TestOutComesFirst: what goes makes room for what comes, of the same number and of the same keys, in the same level too.
func TestOutComesFirst(t *testing.T) {
	s := exampleThree(t)
	old := s.Pin()
	tells(t, "P13.2: the same number anew", applied(t, s, api.Edit{Out: []api.Place{out(1, 4), out(0, 2)}, In: []api.Placed{in(1, 9, "b", "d"), in(1, 4, "x", "y"), in(0, 2, "q", "r")}}))
	if got, want := s.Current().Tables(1), []api.Table{tab(9, "b", "d"), tab(4, "x", "y")}; !slices.Equal(got, want) {
		t.Errorf("P13.2: level 1: %v, want %v", got, want)
	}
	if got, want := s.Current().Tables(0), []api.Table{tab(2, "q", "r")}; !slices.Equal(got, want) {
		t.Errorf("P13.2: level 0: %v, want %v", got, want)
	}
	tells(t, "P13.3: the numbers are the current version's", s.Unpin(old))
	tells(t, "P13.2: they go at last", applied(t, s, api.Edit{Out: []api.Place{out(1, 4), out(1, 9), out(0, 2)}}), 2, 4, 9)
}

// TestLevelZeroKeepsItsOrder: behind those that are there, as they come, whatever their keys and numbers are.
func TestLevelZeroKeepsItsOrder(t *testing.T) {
	s := New(2)
	applied(t, s, api.Edit{In: []api.Placed{in(0, 5, "m", "z"), in(0, 9, "a", "z"), in(1, 3, "m", "n"), in(0, 1, "b", "b"), in(1, 2, "a", "b")}})
	applied(t, s, api.Edit{Out: []api.Place{out(0, 9)}, In: []api.Placed{in(0, 4, "a", "a"), in(1, 8, "c", "d"), in(0, 9, "a", "z"), in(0, 0, "a", "z")}})
	has(t, "P13.2: level 0", s.Current().Tables(0), 5, 1, 4, 9, 0)
	has(t, "P13.2: level 1", s.Current().Tables(1), 2, 8, 3)
}

// TestOneLevel: level 0 alone, which is the last one too.
func TestOneLevel(t *testing.T) {
	s := New(1)
	tells(t, "P13.2: one level", applied(t, s, api.Edit{In: []api.Placed{in(0, 1, "a", "z"), in(0, 2, "a", "z")}, Pointers: []string{"k"}}))
	refused(t, "one level: out", s, api.Edit{Out: []api.Place{out(1, 1)}, Pointers: []string{""}}, api.ErrVersionLevel)
	refused(t, "one level: in", s, api.Edit{In: []api.Placed{in(1, 3, "a", "b")}, Pointers: []string{""}}, api.ErrVersionLevel)
	tells(t, "P13.2: one level", applied(t, s, api.Edit{Out: []api.Place{out(0, 2), out(0, 1)}}), 1, 2)
}

// TestAnEmptyEdit: it makes a version too, and lays the pointers.
func TestAnEmptyEdit(t *testing.T) {
	s := begun(t)
	before := s.Current()
	tells(t, "P13.2: an empty edit", applied(t, s, api.Edit{Log: 5, Next: 1, Seq: 9, Pointers: []string{"x", "\x00", ""}}))
	if s.Current() == before || s.Current() != s.Current() {
		t.Errorf("P13.3: the current version isn't a new one, once and for all")
	}
	if got := s.Pointers(); !slices.Equal(got, []string{"x", "\x00", ""}) {
		t.Errorf("P13.3: Pointers: %q", got)
	}
	sameVersion(t, "an empty edit", s.Current(), [][]api.Table{before.Tables(0), before.Tables(1), nil})
}

// TestCurrentIsNeverOneOfBefore: each Apply that is taken answers an object that wasn't there.
func TestCurrentIsNeverOneOfBefore(t *testing.T) {
	s := New(1)
	seen := []*Version{s.Current()}
	for n := range uint64(20) {
		applied(t, s, api.Edit{In: []api.Placed{in(0, n, "a", "b")}})
		if v := s.Current(); v != s.Pin() || v != s.Current() || slices.Contains(seen, v) {
			t.Fatalf("P13.3: version %d isn't a new one", n)
		}
		seen = append(seen, s.Current())
		refused(t, "a refused one", s, api.Edit{}, api.ErrVersionLevel)
	}
}

// TestPinsAreCounted: as many as were taken have to go, of each version for itself.
func TestPinsAreCounted(t *testing.T) {
	s := New(2)
	applied(t, s, api.Edit{In: []api.Placed{in(0, 1, "a", "b"), in(1, 2, "a", "b")}})
	p := s.Pin()
	if s.Pin() != p || s.Pin() != p || s.Current() != p {
		t.Errorf("P13.3: Pin answers another version")
	}
	tells(t, "P13.3: Unpin of the current one", s.Unpin(p))
	tells(t, "P13.2: pinned", applied(t, s, api.Edit{Out: []api.Place{out(0, 1)}, In: []api.Placed{in(0, 3, "a", "b")}}))
	q := s.Pin()
	tells(t, "P13.2: pinned", applied(t, s, api.Edit{Out: []api.Place{out(0, 3), out(1, 2)}}))
	tells(t, "P13.3: one pin is left", s.Unpin(p))
	tells(t, "P13.3: the last pin", s.Unpin(p), 1)
	tells(t, "P13.3: no pin", s.Unpin(p))
	tells(t, "P13.3: the other's", s.Unpin(q), 2, 3)
	tells(t, "P13.3: no pin", s.Unpin(q))
}

// TestUnpinOfTheCurrentVersion: its tables stand, and go with the next edit.
func TestUnpinOfTheCurrentVersion(t *testing.T) {
	s := begun(t)
	p := s.Pin()
	tells(t, "P13.3: Unpin", s.Unpin(p))
	tells(t, "P13.3: Unpin", s.Unpin(p))
	tells(t, "P13.2: not pinned any more", applied(t, s, api.Edit{Out: []api.Place{out(1, 3), out(0, 2), out(0, 1)}}), 1, 2, 3)
	tells(t, "P13.3: Unpin of an old one", s.Unpin(p))
}

// TestUnpinOfNoPin: another set's, none, and one that was never pinned.
func TestUnpinOfNoPin(t *testing.T) {
	s, other := begun(t), begun(t)
	never, theirs := s.Current(), other.Pin()
	tells(t, "P13.3: never pinned", s.Unpin(never))
	tells(t, "P13.3: nil", s.Unpin(nil))
	tells(t, "P13.3: another set's", s.Unpin(theirs))
	p := s.Pin()
	for _, v := range []*Version{nil, theirs, New(3).Current()} {
		tells(t, "P13.3: not this set's", s.Unpin(v))
	}
	tells(t, "P13.2: still pinned", applied(t, s, api.Edit{Out: []api.Place{out(0, 1)}}))
	tells(t, "P13.3: never pinned, gone", s.Unpin(New(3).Pin()))
	tells(t, "P13.2: the other set's is still pinned", applied(t, other, api.Edit{Out: []api.Place{out(0, 2)}}))
	tells(t, "P13.3: this one", s.Unpin(p), 1)
	tells(t, "P13.3: the other one", other.Unpin(theirs), 2)
}

// TestTwoSetsDoNotTouch: the numbers of one are nothing to the other.
func TestTwoSetsDoNotTouch(t *testing.T) {
	a, b := begun(t), begun(t)
	p := a.Pin()
	tells(t, "a's pin is nothing to b", applied(t, b, api.Edit{Out: []api.Place{out(0, 1), out(1, 3)}, Pointers: []string{"x", "y", "z"}}), 1, 3)
	has(t, "P13.5: a's level 0", a.Current().Tables(0), 1, 2)
	if !slices.Equal(a.Pointers(), []string{"", "", ""}) {
		t.Errorf("two sets touch: %q", a.Pointers())
	}
	tells(t, "P13.2: a's own", applied(t, a, api.Edit{Out: []api.Place{out(0, 1)}}))
	tells(t, "P13.3: a's own", a.Unpin(p), 1)
}

// TestBetweenPinsNothingIsLost: a table that a version between two pins alone had goes at once; one that both pins have goes with the last of them.
func TestBetweenPinsNothingIsLost(t *testing.T) {
	s := New(1)
	step := func(o, i uint64) []uint64 {
		return applied(t, s, api.Edit{Out: []api.Place{out(0, o)}, In: []api.Placed{in(0, i, "a", "b")}})
	}
	applied(t, s, api.Edit{In: []api.Placed{in(0, 1, "a", "b"), in(0, 2, "a", "b")}})
	p := s.Pin()
	tells(t, "P13.6: 2 is pinned", step(2, 3))
	tells(t, "P13.6: 3 was nobody's", step(3, 4), 3)
	q := s.Pin()
	tells(t, "P13.6: 1 is pinned twice", step(1, 5))
	tells(t, "P13.6: 4 is pinned", step(4, 6))
	tells(t, "P13.6: the first pin", s.Unpin(p), 2)
	tells(t, "P13.6: the second pin", s.Unpin(q), 1, 4)
	has(t, "P13.6: what stands", s.Current().Tables(0), 5, 6)
}

// TestComesInWhilePinned: a number that went out and wasn't answered may come in again, as another table.
func TestComesInWhilePinned(t *testing.T) {
	s := New(2)
	applied(t, s, api.Edit{In: []api.Placed{in(0, 1, "a", "b")}})
	p := s.Pin()
	tells(t, "P13.2: pinned", applied(t, s, api.Edit{Out: []api.Place{out(0, 1)}}))
	tells(t, "P13.2: anew", applied(t, s, api.Edit{In: []api.Placed{in(1, 1, "x", "y")}}))
	tells(t, "P13.3: the number stands", s.Unpin(p))
	if got := p.Tables(0); !slices.Equal(got, []api.Table{tab(1, "a", "b")}) {
		t.Errorf("P13.5: %v", got)
	}
	tells(t, "P13.2: it goes", applied(t, s, api.Edit{Out: []api.Place{out(1, 1)}}), 1)
}

// TestGoneIsRising: whatever the order is in which they went and stood.
func TestGoneIsRising(t *testing.T) {
	s := New(3)
	applied(t, s, api.Edit{In: []api.Placed{in(0, 9, "a", "b"), in(0, 1, "a", "b"), in(1, 7, "a", "b"), in(1, 12, "c", "d"), in(2, 8, "a", "b"), in(2, 0, "c", "d")}})
	p := s.Pin()
	applied(t, s, api.Edit{In: []api.Placed{in(0, 30, "a", "b"), in(0, 20, "a", "b")}})
	all := []api.Place{out(2, 8), out(0, 30), out(0, 1), out(1, 12), out(2, 0), out(0, 20), out(0, 9), out(1, 7)}
	tells(t, "P13.2: rising", applied(t, s, api.Edit{Out: all}), 20, 30)
	tells(t, "P13.3: rising", s.Unpin(p), 0, 1, 7, 8, 9, 12)
}

// TestNothingHandedInIsKept: what is done to an edit's lists behind the call changes nothing; and the call leaves them as they are.
func TestNothingHandedInIsKept(t *testing.T) {
	s := New(2)
	pointers := append(make([]string, 0, 3), "p", "q")
	ins := append(make([]api.Placed, 0, 4), in(1, 3, "x", "z"), in(1, 2, "a", "b"), in(0, 1, "a", "c"))
	e := api.Edit{In: ins, Out: make([]api.Place, 0, 2), Pointers: pointers}
	before := copied(e)
	applied(t, s, e)
	if !sameEdit(e, before) || ins[:4][3] != (api.Placed{}) || pointers[:3][2] != "" {
		t.Errorf("the rules: the edit was changed: %v", e)
	}
	for i := range ins {
		ins[i] = in(0, 77, "k", "l")
	}
	pointers[0], pointers[1] = "other", "other"
	sameVersion(t, "an edit that changes", s.Current(), [][]api.Table{{tab(1, "a", "c")}, {tab(2, "a", "b"), tab(3, "x", "z")}})
	if got := s.Pointers(); !slices.Equal(got, []string{"p", "q"}) {
		t.Errorf("the rules: the pointers were kept: %q", got)
	}
}

// TestGoneIsNew: what is done with the numbers that were answered, no later answer tells.
func TestGoneIsNew(t *testing.T) {
	s := New(1)
	applied(t, s, api.Edit{In: []api.Placed{in(0, 1, "", ""), in(0, 2, "", ""), in(0, 3, "", ""), in(0, 4, "", "")}})
	first := applied(t, s, api.Edit{Out: []api.Place{out(0, 1), out(0, 2)}})
	p := s.Pin()
	applied(t, s, api.Edit{Out: []api.Place{out(0, 4), out(0, 3)}})
	second := s.Unpin(p)
	tells(t, "P13.2: the first answer", first, 1, 2)
	for i := range first[:cap(first)] {
		first[:cap(first)][i] = 99
	}
	tells(t, "P13.3: the second answer", second, 3, 4)
}

// TestAgainstTheModel runs sets and their models side by side, with edits that fit and edits that don't, and pins that come and go.
func TestAgainstTheModel(t *testing.T) {
	taken, errs := 0, map[api.Errno]int{}
	for seed := range int64(250) {
		r := rand.New(rand.NewSource(seed))
		levels := 1 + r.Intn(5)
		s := New(levels)
		m := modelNew(s, levels)
		number := uint64(0)
		next := func() uint64 { number++; return number }
		for range 60 {
			switch what := "seed " + strconv.Itoa(int(seed)); r.Intn(4) {
			case 0:
				m.current().pins++
				if v := s.Pin(); v != m.current().object {
					t.Fatalf("P13.3: %s: Pin answers another version", what)
				}
			case 1:
				v := m.versions[r.Intn(len(m.versions))]
				if got, want := s.Unpin(v.object), m.unpin(v); !slices.Equal(got, want) {
					t.Fatalf("P13.3: %s: Unpin: %v, want %v", what, got, want)
				}
			default:
				err := bothApply(t, what, s, m, someEdit(r, m.current().levels, next))
				errs[err]++
				if err == api.OK {
					taken++
				}
			}
			sameSet(t, s, m, r)
		}
	}
	for _, err := range []api.Errno{api.ErrVersionNone, api.ErrVersionTwice, api.ErrVersionOrder, api.ErrVersionLevel} {
		if errs[err] < 50 {
			t.Errorf("the test: error %d was met %d times", err, errs[err])
		}
	}
	if taken < 1000 {
		t.Errorf("the test: %d edits were taken", taken)
	}
}

// bothApply lays an edit on a set and on its model.
func bothApply(t *testing.T, what string, s *Set, m *modelSet, e api.Edit) api.Errno {
	t.Helper()
	before := copied(e)
	gone, err := s.Apply(e)
	if !sameEdit(e, before) {
		t.Fatalf("the rules: %s: the edit was changed: %v, was %v", what, e, before)
	}
	wantGone, want := m.apply(e)
	if err != want || !slices.Equal(gone, wantGone) {
		t.Fatalf("P13.2: %s: Apply(%v): %v, %d, want %v, %d", what, e, gone, err, wantGone, want)
	}
	if err == api.OK {
		for _, v := range m.versions {
			if v.object == s.Current() {
				t.Fatalf("P13.3: %s: the current version is one of before", what)
			}
		}
		m.current().object = s.Current()
	}
	return err
}

// sameSet holds a set, and all versions that it ever had, to answer as the model does.
func sameSet(t *testing.T, s *Set, m *modelSet, r *rand.Rand) {
	t.Helper()
	if s.Current() != m.current().object {
		t.Fatalf("P13.3: Current answers another version")
	}
	if got := s.Pointers(); !slices.Equal(got, m.pointers) {
		t.Fatalf("P13.3: Pointers: %q, want %q", got, m.pointers)
	}
	for _, v := range m.versions {
		sameVersion(t, "a version", v.object, v.levels)
	}
	for range 4 {
		v := m.versions[r.Intn(len(m.versions))]
		asked(t, "a version", v.object, v.levels, someKey(r), someKey(r))
	}
}

// TestEachNumberGoesOnce: over random lives in which no answered number comes in again; at the end every pin is taken away.
func TestEachNumberGoesOnce(t *testing.T) {
	for seed := range int64(300) {
		r := rand.New(rand.NewSource(seed))
		s := New(1 + r.Intn(5))
		life := &life{t: t, s: s, came: map[uint64]int{}}
		number := uint64(0)
		next := func() uint64 { number++; return number }
		for range 60 {
			switch r.Intn(5) {
			case 0, 1:
				life.pins = append(life.pins, s.Pin())
			case 2:
				life.unpin(r)
			default:
				life.apply(someEdit(r, levelsOf(s.Current()), next))
			}
			life.holds()
		}
		for len(life.pins) > 0 {
			life.unpin(r)
			life.holds()
		}
		standing := numbers(slices.Concat(levelsOf(s.Current())...))
		for n, answered := range life.came {
			if slices.Contains(standing, n) == (answered == 1) {
				t.Fatalf("P13.6: seed %d: number %d at the end: answered %d times", seed, n, answered)
			}
		}
	}
}

// life: what came into a set, and how often it was answered; and the pins that are out.
type life struct {
	t    *testing.T
	s    *Set
	came map[uint64]int
	pins []*Version
}

func levelsOf(v *Version) [][]api.Table {
	var levels [][]api.Table
	for i := range v.Levels() {
		levels = append(levels, v.Tables(i))
	}
	return levels
}

// apply leaves out what was answered: it isn't to come in again.
func (l *life) apply(e api.Edit) {
	e.In = slices.DeleteFunc(e.In, func(p api.Placed) bool { return l.came[p.Table.Number] > 0 })
	gone, err := l.s.Apply(e)
	if err == api.OK {
		for _, p := range e.In {
			l.came[p.Table.Number] += 0
		}
	}
	l.answered(gone)
}

func (l *life) unpin(r *rand.Rand) {
	if len(l.pins) > 0 {
		i := r.Intn(len(l.pins))
		v := l.pins[i]
		l.pins = slices.Delete(l.pins, i, i+1)
		l.answered(l.s.Unpin(v))
	}
}

func (l *life) answered(gone []uint64) {
	for i, n := range gone {
		if _, came := l.came[n]; !came || i > 0 && gone[i-1] >= n {
			l.t.Fatalf("P13.6: answered: %v: %d never came, or they don't rise", gone, n)
		}
		if l.came[n]++; l.came[n] > 1 {
			l.t.Fatalf("P13.6: %d was answered twice", n)
		}
	}
}

// holds: just what came and wasn't answered stands in the current version or a pinned one.
func (l *life) holds() {
	l.t.Helper()
	stands := map[uint64]bool{}
	for _, v := range append(slices.Clone(l.pins), l.s.Current()) {
		for _, n := range numbers(slices.Concat(levelsOf(v)...)) {
			stands[n] = true
		}
	}
	for n, answered := range l.came {
		if stands[n] != (answered == 0) {
			l.t.Fatalf("P13.6: number %d: stands: %v, answered %d times", n, stands[n], answered)
		}
		delete(stands, n)
	}
	if len(stands) != 0 {
		l.t.Fatalf("P13.6: numbers that never came stand: %v", stands)
	}
}
