package manifest

import (
	"bytes"
	"fmt"
	"math"
	"math/rand"
	"slices"
	"strings"
	"testing"

	"scree/api"
	"scree/log"
	"scree/version"
)

func placed(level int, number uint64, least, greatest string) api.Placed {
	return api.Placed{Level: level, Table: api.Table{Number: number, Weight: int(number)*10 + 450, Bytes: int(number) + 7, Entries: int(number)%5 + 1, Least: least, Greatest: greatest}}
}

// applied holds an edit to be taken by a set.
func applied(t *testing.T, s *version.Set, e api.Edit) {
	t.Helper()
	if _, err := s.Apply(e); err != api.OK {
		t.Fatalf("Apply of %v: %d", e, err)
	}
}

// begun: a set of three levels with tables that came in another order than the one they stand in.
func begun(t *testing.T) *version.Set {
	t.Helper()
	s := version.New(3)
	applied(t, s, api.Edit{
		In:       []api.Placed{placed(2, 1, "x", "z"), placed(0, 9, "a", "c"), placed(1, 7, "m", "n"), placed(0, 5, "b", "d"), placed(1, 6, "a", "b")},
		Pointers: []string{"", "b", "\xff"},
	})
	return s
}

// state tells all that is to be seen of a set.
func state(s *version.Set) string {
	var b strings.Builder
	for level := range s.Current().Levels() {
		fmt.Fprintf(&b, "%d: %+v\n", level, s.Current().Tables(level))
	}
	fmt.Fprintf(&b, "%q", s.Pointers())
	return b.String()
}

// laid: P14.8, record by record.
func laid(at int, l ...api.Edit) []byte {
	var b []byte
	for _, e := range l {
		for _, rec := range plainRecords(e) {
			b = append(b, log.Append(max(at, 0)+len(b), rec)...)
		}
	}
	return b
}

// reads holds Read to answer a set like this one and these roots.
func reads(t *testing.T, what string, b []byte, levels int, want string, roots api.Roots) {
	t.Helper()
	s, r, err := Read(b, levels)
	if err != api.OK || s == nil {
		t.Fatalf("%s: error %d", what, err)
	}
	if r != roots {
		t.Errorf("%s: roots %v, want %v", what, r, roots)
	}
	if got := state(s); got != want {
		t.Errorf("%s: %s\nwant %s", what, got, want)
	}
}

// refuses holds Read to answer an error and nothing else.
func refuses(t *testing.T, what string, b []byte, levels int, want api.Errno) {
	t.Helper()
	if s, r, err := Read(b, levels); s != nil || r != (api.Roots{}) || err != want {
		t.Errorf("%s: %v, %v, %d; want %d", what, s, r, err, want)
	}
}

func TestWholeOfASet(t *testing.T) {
	s := begun(t)
	w := Whole(s, api.Roots{Log: 1, Next: 2, Seq: 3, Manifest: 4})
	want := api.Edit{
		Log: 1, Next: 2, Seq: 3,
		In:       []api.Placed{placed(0, 9, "a", "c"), placed(0, 5, "b", "d"), placed(1, 6, "a", "b"), placed(1, 7, "m", "n"), placed(2, 1, "x", "z")},
		Pointers: []string{"", "b", "\xff"},
	}
	if !sameEdit(w, want) {
		t.Errorf("P14.7: %+v, want %+v", w, want)
	}
	if !sameEdit(w, Whole(s, api.Roots{Log: 1, Next: 2, Seq: 3, Manifest: 77})) {
		t.Error("P14.7: r.Manifest is looked at")
	}
	fresh := version.New(3)
	applied(t, fresh, w)
	if state(fresh) != state(s) {
		t.Errorf("P14.7: it makes %s\nout of nothing, want %s", state(fresh), state(s))
	}
}

// TestWholeIsOfTheCurrentVersion: neither of one that is pinned, nor of what has gone.
func TestWholeIsOfTheCurrentVersion(t *testing.T) {
	s := begun(t)
	s.Pin()
	applied(t, s, api.Edit{Out: []api.Place{{Level: 0, Number: 9}, {Level: 1, Number: 6}}, In: []api.Placed{placed(1, 6, "p", "q")}, Pointers: []string{"", "", "k"}})
	w := Whole(s, api.Roots{})
	want := api.Edit{In: []api.Placed{placed(0, 5, "b", "d"), placed(1, 7, "m", "n"), placed(1, 6, "p", "q"), placed(2, 1, "x", "z")}, Pointers: []string{"", "", "k"}}
	if !sameEdit(w, want) {
		t.Errorf("P14.7: %+v, want %+v", w, want)
	}
	before := state(s)
	clear(w.In[:cap(w.In)])
	clear(w.Pointers[:cap(w.Pointers)])
	if state(s) != before || !sameEdit(Whole(s, api.Roots{}), want) {
		t.Error("P14.7: what Whole answers is the set's")
	}
}

func TestWholeOfEmptySets(t *testing.T) {
	for levels := 1; levels <= 5; levels++ {
		w := Whole(version.New(levels), api.Roots{Log: math.MaxUint64, Next: 5})
		if !sameEdit(w, api.Edit{Log: math.MaxUint64, Next: 5, Pointers: make([]string, levels)}) {
			t.Errorf("P14.7: %d levels: %+v", levels, w)
		}
		if levels >= 3 {
			reads(t, "P14.11: an empty set", Bytes(0, w), levels, state(version.New(levels)), api.Roots{Log: math.MaxUint64, Next: 5})
		}
	}
}

func TestBytesAtEachPlaceOfABlock(t *testing.T) {
	r := rand.New(rand.NewSource(5))
	bad := api.Edit{Out: []api.Place{{Level: 5}}}
	l := []api.Edit{exampleEdit(), bad, editOf(r, 3, 20, 5), {}, bad, editOf(r, 200, 100, 3)}
	for at := range 2*api.LogBlock + 1 {
		want := laid(at, l...)
		if got := Bytes(at, l...); !bytes.Equal(got, want) {
			t.Fatalf("P14.8: at %d: %d bytes, want %d", at, len(got), len(want))
		}
		if got := Bytes(at, l[0]); !bytes.Equal(got, log.Append(at, Put(l[0])[0])) {
			t.Fatalf("P14.8: at %d: one edit", at)
		}
		if got := Bytes(at+7*api.LogBlock, l...); !bytes.Equal(got, want) {
			t.Fatalf("P14.8: at %d: seven blocks further on", at)
		}
	}
	for _, at := range []int{-1, -505, -512, math.MinInt} {
		if !bytes.Equal(Bytes(at, l...), laid(0, l...)) {
			t.Errorf("P14.8: at %d doesn't count as 0", at)
		}
	}
}

// TestBytesBehindTheGreatestPlace: the place behind the first record passes the greatest int; in its block it stands where it stands.
func TestBytesBehindTheGreatestPlace(t *testing.T) {
	l := []api.Edit{exampleEdit(), outs(300), exampleEdit()}
	for back := range 1100 {
		at := math.MaxInt - back
		if got := Bytes(at, l...); !bytes.Equal(got, laid(at%api.LogBlock, l...)) {
			t.Fatalf("P14.8: at %d: %d bytes", at, len(got))
		}
	}
}

func TestBytesOfNothing(t *testing.T) {
	bad := api.Edit{Pointers: make([]string, 6)}
	for _, at := range []int{-1, 0, 1, 505, 511, 512, math.MaxInt} {
		if len(Bytes(at)) != 0 || len(Bytes(at, bad)) != 0 || len(Bytes(at, bad, bad)) != 0 {
			t.Errorf("P14.8: at %d bytes are laid", at)
		}
	}
}

func TestBytesAnswersNewMemory(t *testing.T) {
	l := []api.Edit{exampleEdit(), outs(3), ins(3)}
	room := append(slices.Clone(l), ins(5))
	want := laid(100, l...)
	one := Bytes(100, room[:3]...)
	two := Bytes(100, room[:3]...)
	if !sameEdits(room, append(slices.Clone(l), ins(5))) {
		t.Fatal("P14.8: Bytes has changed what it was handed")
	}
	clear(one[:cap(one)])
	clear(room)
	if !bytes.Equal(two, want) {
		t.Error("P14.8: what Bytes answered is touched by what is done with another answer")
	}
}

func TestReadOfAManifest(t *testing.T) {
	s := begun(t)
	first := Whole(s, api.Roots{Log: 1, Next: 2, Seq: 3, Manifest: 4})
	more := api.Edit{Log: 5, Next: 6, Seq: 7, Out: []api.Place{{Level: 1, Number: 6}}, Pointers: []string{"", "", "q"}}
	was := state(s)
	applied(t, s, more)
	b := Bytes(0, first)
	reads(t, "P14.9: one edit", b, 3, was, api.Roots{Log: 1, Next: 2, Seq: 3})
	b = append(b, Bytes(len(b), more)...)
	reads(t, "P14.9: two edits", b, 3, state(s), api.Roots{Log: 5, Next: 6, Seq: 7})
	reads(t, "P14.9: bytes behind", append(slices.Clone(b), 1, 2, 3), 3, state(s), api.Roots{Log: 5, Next: 6, Seq: 7})
	reads(t, "P14.9: zeros behind", append(slices.Clone(b), make([]byte, 600)...), 3, state(s), api.Roots{Log: 5, Next: 6, Seq: 7})
	// The roots are the last edit's, though those of one ahead are greater.
	low := api.Edit{Seq: 1, Pointers: []string{"", "", "q"}}
	reads(t, "P14.9: roots that fall", append(slices.Clone(b), Bytes(len(b), low)...), 3, state(s), api.Roots{Seq: 1})
	// One that is begun, and whole records behind it that aren't read any more, change nothing.
	begunOne := Put(outs(257))[0]
	reads(t, "P14.9: an edit that is begun", append(slices.Clone(b), log.Append(len(b), begunOne)...), 3, state(s), api.Roots{Log: 5, Next: 6, Seq: 7})
	torn := append(slices.Clone(b), 9)
	torn = append(torn, log.Append(len(torn), []byte{77})...)
	reads(t, "P14.9: whole records behind a torn one", torn, 3, state(s), api.Roots{Log: 5, Next: 6, Seq: 7})
}

// TestReadPinsNothing: what an edit takes out is told to be gone at once.
func TestReadPinsNothing(t *testing.T) {
	first := Whole(begun(t), api.Roots{})
	move := api.Edit{Out: []api.Place{{Level: 1, Number: 7}}, In: []api.Placed{placed(2, 8, "m", "n")}, Pointers: make([]string, 3)}
	s, _, err := Read(Bytes(0, first, move), 3)
	if err != api.OK {
		t.Fatalf("P14.9: %d", err)
	}
	gone, err := s.Apply(api.Edit{Out: []api.Place{{Level: 2, Number: 8}, {Level: 0, Number: 9}}, Pointers: make([]string, 3)})
	if err != api.OK || !slices.Equal(gone, []uint64{8, 9}) {
		t.Errorf("P14.9: %v, %d", gone, err)
	}
	other, _, _ := Read(Bytes(0, first, move), 3)
	if len(other.Current().Tables(2)) != 2 || len(s.Current().Tables(2)) != 1 {
		t.Error("P14.9: two sets touch one another")
	}
}

func TestWhatReadRefuses(t *testing.T) {
	none := make([]string, 3)
	right := api.Edit{In: []api.Placed{placed(0, 1, "a", "b"), placed(1, 2, "a", "b")}, Pointers: none}
	wrong := func(rec ...byte) []byte { b := Bytes(0, right); return append(b, log.Append(len(b), rec)...) }
	for what, b := range map[string][]byte{
		"no bytes":                     nil,
		"zeros":                        make([]byte, 1000),
		"other bytes":                  []byte("something else, and long enough for a head of a piece"),
		"no whole record":              Bytes(0, right)[:20],
		"all but a byte":               Bytes(0, right)[:len(Bytes(0, right))-1],
		"an edit that is begun alone":  log.Append(0, Put(outs(257))[0]),
		"records of another kind":      log.Append(0, log.Put(3, [][]api.Write{{{Key: "k", Val: "v"}}})),
		"an empty record":              log.Append(0, nil),
		"a wrong record behind":        wrong(2),
		"an empty record behind":       wrong(),
		"a byte ahead":                 append([]byte{0}, Bytes(0, right)...),
		"one behind that isn't full":   wrong(plainRecord(0, outs(1))...),
		"an edit of level 5, laid":     wrong(plainRecord(1, api.Edit{Out: []api.Place{{Level: 5}}, Pointers: none})...),
		"a wrong one behind a bad one": slicesOf(Bytes(0, api.Edit{}), log.Append(len(Bytes(0, api.Edit{})), []byte{2})),
	} {
		refuses(t, "P14.9: "+what, b, 3, api.ErrManifestForm)
	}
	for what, c := range map[string]struct {
		e    api.Edit
		want api.Errno
	}{
		"no such table":     {api.Edit{Out: []api.Place{{Level: 0, Number: 2}}, Pointers: none}, api.ErrVersionNone},
		"a table twice":     {api.Edit{In: []api.Placed{placed(2, 1, "a", "b")}, Pointers: none}, api.ErrVersionTwice},
		"no hull":           {api.Edit{In: []api.Placed{placed(0, 3, "b", "a")}, Pointers: none}, api.ErrVersionOrder},
		"overlapping":       {api.Edit{In: []api.Placed{placed(1, 3, "b", "c")}, Pointers: none}, api.ErrVersionOrder},
		"no such level":     {api.Edit{In: []api.Placed{placed(3, 3, "b", "c")}, Pointers: none}, api.ErrVersionLevel},
		"out of no level":   {api.Edit{Out: []api.Place{{Level: 4, Number: 1}}, Pointers: none}, api.ErrVersionLevel},
		"too few pointers":  {api.Edit{Pointers: none[:2]}, api.ErrVersionLevel},
		"too many pointers": {api.Edit{Pointers: make([]string, 4)}, api.ErrVersionLevel},
	} {
		refuses(t, "P14.9: "+what, Bytes(0, right, c.e), 3, c.want)
		refuses(t, "P14.9: with a right one behind: "+what, Bytes(0, right, c.e, api.Edit{Pointers: none}), 3, c.want)
		refuses(t, "P14.9: with another error behind: "+what, Bytes(0, right, c.e, api.Edit{Out: []api.Place{{Level: 0, Number: 99}}, Pointers: none}, api.Edit{}), 3, c.want)
		b := Bytes(0, right, c.e)
		refuses(t, "P14.9: with a wrong record behind: "+what, append(b, log.Append(len(b), []byte{2})...), 3, api.ErrManifestForm)
	}
	refuses(t, "P14.9: another number of levels", Bytes(0, right), 4, api.ErrVersionLevel)
	refuses(t, "P14.9: another number of levels", Bytes(0, right), 5, api.ErrVersionLevel)
}

// TestReadOfOtherNumbersOfLevels: what is answered is free, but it is answered.
func TestReadOfOtherNumbersOfLevels(t *testing.T) {
	for _, levels := range []int{math.MinInt, -1, 0, 1, 2, 6, 7, math.MaxInt} {
		for pointers := range 6 {
			Read(Bytes(0, api.Edit{Pointers: make([]string, pointers)}), levels)
			Read(nil, levels)
		}
	}
}

func TestReadKeepsNothing(t *testing.T) {
	s := begun(t)
	b := Bytes(0, Whole(s, api.Roots{Log: 1}))
	room := append(slices.Clone(b), 1, 2, 3)
	kept := slices.Clone(room)
	got, _, err := Read(room[:len(b)], 3)
	if !bytes.Equal(room, kept) {
		t.Error("P14.9: Read has changed what it was handed")
	}
	clear(room)
	if err != api.OK || state(got) != state(s) {
		t.Errorf("P14.9: what Read answered hangs on what it was handed: %d", err)
	}
}

// life: a manifest as it grows: its bytes, and behind each edit where they end, the roots, and what stands then.
type life struct {
	set    *version.Set
	bytes  []byte
	ends   []int
	roots  []api.Roots
	states []string
}

func (l *life) lay(e api.Edit) {
	l.bytes = append(l.bytes, Bytes(len(l.bytes), e)...)
	l.ends = append(l.ends, len(l.bytes))
	l.roots = append(l.roots, api.Roots{Log: e.Log, Next: e.Next, Seq: e.Seq})
	l.states = append(l.states, state(l.set))
}

// nextEdit: an edit that mostly fits the set: tables of their own keys in the levels from 1 on.
func nextEdit(r *rand.Rand, s *version.Set, next *uint64, most int) api.Edit {
	v := s.Current()
	e := api.Edit{Log: someNumber(r), Next: someNumber(r), Seq: someNumber(r)}
	for level := range v.Levels() {
		e.Pointers = append(e.Pointers, someText(r))
		for _, table := range v.Tables(level) {
			switch r.Intn(6) {
			case 0:
				e.Out = append(e.Out, api.Place{Level: level, Number: table.Number})
			case 1: // a move
				e.Out = append(e.Out, api.Place{Level: level, Number: table.Number})
				e.In = append(e.In, api.Placed{Level: r.Intn(v.Levels()), Table: table})
			}
		}
	}
	for range r.Intn(most + 1) {
		key := fmt.Sprintf("%06d", *next*7919%1000000)
		table := api.Table{Number: *next, Weight: someSize(r), Bytes: someSize(r), Entries: someSize(r), Least: key, Greatest: key + "x"}
		e.In = append(e.In, api.Placed{Level: r.Intn(v.Levels()), Table: table})
		*next++
	}
	return e
}

func someLife(r *rand.Rand, edits, most int) *life {
	levels := 3 + r.Intn(3)
	l := &life{set: version.New(levels)}
	next := uint64(r.Intn(1000))
	for range r.Intn(4) {
		l.set.Apply(nextEdit(r, l.set, &next, most))
	}
	l.lay(Whole(l.set, api.Roots{Log: someNumber(r), Next: someNumber(r), Seq: someNumber(r), Manifest: someNumber(r)}))
	for range edits {
		e := nextEdit(r, l.set, &next, most)
		if _, err := l.set.Apply(e); err == api.OK {
			l.lay(e)
		}
	}
	return l
}

// cutAt holds what Read answers of the first n bytes to be what the edits make that end there or ahead.
func (l *life) cutAt(t *testing.T, n int) {
	t.Helper()
	whole := 0
	for whole < len(l.ends) && l.ends[whole] <= n {
		whole++
	}
	levels := l.set.Current().Levels()
	what := fmt.Sprintf("P14.11: %d of %d bytes, %d edits", n, len(l.bytes), whole)
	if whole == 0 {
		refuses(t, what, l.bytes[:n], levels, api.ErrManifestForm)
		return
	}
	reads(t, what, l.bytes[:n], levels, l.states[whole-1], l.roots[whole-1])
}

func TestLivesCutAnywhere(t *testing.T) {
	r := rand.New(rand.NewSource(6))
	for range 40 {
		l := someLife(r, r.Intn(6), 4)
		for n := range len(l.bytes) + 1 {
			l.cutAt(t, n)
		}
	}
}

// TestLongLives: edits of several records among them; cut at random, and around where each edit ends.
func TestLongLives(t *testing.T) {
	r := rand.New(rand.NewSource(7))
	several := 0
	for range 6 {
		l := someLife(r, 4, 900)
		for i, end := range l.ends {
			if e, _, _ := Read(l.bytes[:end], l.set.Current().Levels()); i == 0 && len(Put(Whole(e, api.Roots{}))) > 1 {
				several++
			}
			for n := max(0, end-2); n <= min(len(l.bytes), end+2); n++ {
				l.cutAt(t, n)
			}
		}
		for range 60 {
			l.cutAt(t, r.Intn(len(l.bytes)+1))
		}
	}
	if several == 0 {
		t.Error("P14.11: no first edit of several records: the test has lost its weight")
	}
}
