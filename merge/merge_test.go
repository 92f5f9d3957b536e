package merge

import (
	"iter"
	"math"
	"math/rand"
	"slices"
	"strconv"
	"testing"

	"scree/api"
)

func TestExample(t *testing.T) {
	x := seq(e("a", 3, "x"), e("a", 1, "x"), e("c", 2, "x"))
	y := seq(e("a", 2, "y"), e("b", 9, "y"), e("c", 2, "y"))
	want := []api.Entry{e("a", 3, "x"), e("a", 2, "y"), e("a", 1, "x"), e("b", 9, "y"), e("c", 2, "x"), e("c", 2, "y")}
	gives(t, "P11.1", Of(x, y), want)
	givesRuns(t, "P11.2", Keys(x, y), [][]api.Entry{want[:3], want[3:4], want[4:]})
	want[4], want[5] = want[5], want[4]
	gives(t, "P11.1: the earlier source first", Of(y, x), want)
	givesRuns(t, "P11.2: the earlier source first", Keys(y, x), [][]api.Entry{want[:3], want[3:4], want[4:]})
}

func TestNothing(t *testing.T) {
	none := seq()
	for n := range 4 {
		l := slices.Repeat([]iter.Seq[api.Entry]{none}, n)
		gives(t, "P11.1: nothing", Of(l...), nil)
		givesRuns(t, "P11.2: nothing", Keys(l...), nil)
	}
	if Of() == nil || Keys() == nil {
		t.Errorf("P11.1: an iterator is nil")
	}
	x := e("a", 1, "")
	gives(t, "P11.1: among sources that give nothing", Of(none, seq(x), none, none), []api.Entry{x})
	givesRuns(t, "P11.2: among sources that give nothing", Keys(none, seq(x), none, none), [][]api.Entry{{x}})
}

func TestNewestFirst(t *testing.T) {
	l := []api.Entry{e("a", math.MaxUint64, "0"), e("a", 1<<63, "1"), e("a", 1<<63-1, "0"), e("a", 1, "1"), e("a", 0, "0")}
	x, y := seq(l[0], l[2], l[4]), seq(l[1], l[3])
	gives(t, "P11.1: the greater number first", Of(x, y), l)
	gives(t, "P11.1: the greater number first", Of(y, x), l)
	givesRuns(t, "P11.2: the newest first", Keys(y, x), [][]api.Entry{l})
}

// TestEqualsKeepTheirOrder: neither Del nor Val, nor how many stand at one place, says who is first.
func TestEqualsKeepTheirOrder(t *testing.T) {
	for n := range 12 {
		var lists [][]api.Entry
		for i := range n {
			var l []api.Entry
			for j := range 1 + (n+i)%4 {
				x := e("k", 7, strconv.Itoa(n-i)+"."+strconv.Itoa(9-j))
				x.Del = (i+j)%2 == 0
				l = append(l, x)
			}
			lists = append(lists, l)
		}
		gives(t, "P11.1: equals", Of(seqs(lists)...), slices.Concat(lists...))
		if n > 0 {
			givesRuns(t, "P11.2: equals", Keys(seqs(lists)...), [][]api.Entry{slices.Concat(lists...)})
		}
	}
}

// TestEmptyKey: a key of no bytes is a key like others.
func TestEmptyKey(t *testing.T) {
	x, y, z := e("", 3, "x"), e("", 0, "y"), e("\x00", 9, "z")
	gives(t, "P11.1: the empty key", Of(seq(y, z), seq(x)), []api.Entry{x, y, z})
	givesRuns(t, "P11.2: the empty key", Keys(seq(y, z), seq(x)), [][]api.Entry{{x, y}, {z}})
	givesRuns(t, "P11.2: the empty key alone", Keys(seq(), seq(api.Entry{})), [][]api.Entry{{{}}})
}

func TestAgainstTheModel(t *testing.T) {
	for seed := range int64(600) {
		lists := someLists(rand.New(rand.NewSource(seed)))
		gives(t, "P11.1: seed "+strconv.Itoa(int(seed)), Of(seqs(lists)...), modelOf(lists))
		givesRuns(t, "P11.2: seed "+strconv.Itoa(int(seed)), Keys(seqs(lists)...), modelKeys(lists))
	}
}

func TestRunsAreNewMemory(t *testing.T) {
	for seed := range int64(60) {
		lists := someLists(rand.New(rand.NewSource(seed)))
		want := modelKeys(lists)
		f := Keys(seqs(lists)...)
		var kept [][]api.Entry
		for run := range f {
			if len(run) == 0 {
				t.Fatalf("P11.2: an empty list")
			}
			kept = append(kept, run)
		}
		for i := range kept {
			if !slices.Equal(kept[i], want[i]) {
				t.Fatalf("P11.2: seed %d: a list was touched: %v, want %v", seed, kept[i], want[i])
			}
			spoil(kept[i])
		}
		at := 0
		for run := range f {
			if !slices.Equal(run, want[at]) {
				t.Fatalf("P11.2: seed %d: list %d: %v, want %v", seed, at, run, want[at])
			}
			spoil(run)
			at++
		}
		if at != len(want) {
			t.Fatalf("P11.2: seed %d: %d lists, want %d", seed, at, len(want))
		}
	}
}

// spoil lays something else into a list, and into the room behind it.
func spoil(run []api.Entry) {
	run = run[:cap(run)]
	for i := range run {
		run[i] = api.Entry{Key: "spoilt", Seq: 77, Val: "spoilt"}
	}
}

func TestNothingIsGoneThroughByTheCalls(t *testing.T) {
	all, l := watchedOf([][]api.Entry{{e("a", 2, "")}, {e("a", 1, "")}, nil})
	f, g := Of(l...), Keys(l...)
	for i, w := range all {
		if w.begun != 0 {
			t.Errorf("P11.3: source %d was gone through by the call", i)
		}
	}
	all[0].list = []api.Entry{e("b", 5, ""), e("b", 4, "")}
	all[2].list = []api.Entry{e("b", 6, "")}
	want := []api.Entry{e("a", 1, ""), e("b", 6, ""), e("b", 5, ""), e("b", 4, "")}
	gives(t, "P11.3: what the sources give by then", f, want)
	givesRuns(t, "P11.3: what the sources give by then", g, [][]api.Entry{want[:1], want[1:]})
	all[1].list = nil
	all[2].list = nil
	gives(t, "P11.3: and behind that", f, want[2:])
	givesRuns(t, "P11.3: and behind that", g, [][]api.Entry{want[2:]})
	allLeft(t, "walks to the end", all)
}

// TestListOfSourcesIsNotKept: what is laid into the list behind the call doesn't count; and it is left as it is.
func TestListOfSourcesIsNotKept(t *testing.T) {
	x, y, z := e("a", 1, "x"), e("b", 2, "y"), e("c", 3, "z")
	l := append(make([]iter.Seq[api.Entry], 0, 5), seq(x), seq(y))
	f, g := Of(l...), Keys(l...)
	l[0] = seq(z)
	l[1] = nil
	spare := l[:5]
	spare[2] = seq(z)
	gives(t, "the rules: the list was changed", f, []api.Entry{x, y})
	givesRuns(t, "the rules: the list was changed", g, [][]api.Entry{{x}, {y}})
	if l[1] != nil || spare[3] != nil || spare[4] != nil || !slices.Equal(slices.Collect(l[0]), []api.Entry{z}) {
		t.Errorf("the rules: the list isn't as it was")
	}
}

func TestEntriesOfTheSourcesAreLeftAsTheyAre(t *testing.T) {
	for seed := range int64(60) {
		lists := someLists(rand.New(rand.NewSource(seed)))
		before := make([][]api.Entry, len(lists))
		for i := range lists {
			before[i] = slices.Clone(lists[i])
		}
		for run := range Keys(seqs(lists)...) {
			spoil(run)
		}
		if !slices.EqualFunc(lists, before, slices.Equal) {
			t.Fatalf("the rules: seed %d: what was handed in was changed", seed)
		}
	}
}

// TestLeftEarly leaves at every point: what was given till then is right, and no source is gone through behind it.
func TestLeftEarly(t *testing.T) {
	for seed := range int64(40) {
		lists := someLists(rand.New(rand.NewSource(seed)))
		all, l := watchedOf(lists)
		f, g := Of(l...), Keys(l...)
		want, runs := modelOf(lists), modelKeys(lists)
		for n := range want {
			var got []api.Entry
			for x := range f {
				if got = append(got, x); len(got) > n {
					break
				}
			}
			if !slices.Equal(got, want[:n+1]) {
				t.Fatalf("P11.1: seed %d, left at %d: %v", seed, n, got)
			}
			allLeft(t, "Of left early", all)
		}
		for n := range runs {
			var got [][]api.Entry
			for run := range g {
				if got = append(got, run); len(got) > n {
					break
				}
			}
			if !slices.EqualFunc(got, runs[:n+1], slices.Equal) {
				t.Fatalf("P11.2: seed %d, left at %d: %v", seed, n, got)
			}
			allLeft(t, "Keys left early", all)
		}
		gives(t, "P11.1: gone through again", f, want)
		givesRuns(t, "P11.2: gone through again", g, runs)
	}
}

// TestNoMoreIsGivenBehindFalse: who was told that no more is wanted gives no more.
func TestNoMoreIsGivenBehindFalse(t *testing.T) {
	lists := [][]api.Entry{{e("a", 2, ""), e("b", 2, "")}, {e("a", 1, ""), e("c", 2, "")}, {e("c", 1, "")}}
	for stop := range 6 {
		asked := 0
		Of(seqs(lists)...)(func(api.Entry) bool { asked++; return asked <= stop })
		if asked != min(stop+1, 5) {
			t.Errorf("the rules: Of gave %d, left at %d", asked, stop)
		}
		asked = 0
		Keys(seqs(lists)...)(func([]api.Entry) bool { asked++; return asked <= stop })
		if asked != min(stop+1, 3) {
			t.Errorf("the rules: Keys gave %d, left at %d", asked, stop)
		}
	}
}

// TestSourceThatDoesNotEnd: sources are gone through no further than is needed, so an answer that is left ends over any source.
func TestSourceThatDoesNotEnd(t *testing.T) {
	ended := false
	forever := func(yield func(api.Entry) bool) {
		defer func() { ended = true }()
		for n := uint64(math.MaxUint64); yield(e("k", n, "")); n-- {
		}
	}
	var got []api.Entry
	for x := range Of(forever, seq(e("k", math.MaxUint64-1, "z"))) {
		if got = append(got, x); len(got) == 4 {
			break
		}
	}
	want := []api.Entry{e("k", math.MaxUint64, ""), e("k", math.MaxUint64-1, ""), e("k", math.MaxUint64-1, "z"), e("k", math.MaxUint64-2, "")}
	if !ended || !slices.Equal(got, want) {
		t.Errorf("P11.3: left: %v, %v", ended, got)
	}
}

// TestWalkThatPanics: a taker who panics leaves too.
func TestWalkThatPanics(t *testing.T) {
	all, l := watchedOf([][]api.Entry{{e("a", 2, ""), e("b", 2, "")}, {e("a", 1, ""), e("c", 2, "")}})
	for _, walk := range []func(){
		func() { Of(l...)(func(api.Entry) bool { panic("left") }) },
		func() { Keys(l...)(func([]api.Entry) bool { panic("left") }) },
	} {
		func() {
			defer func() {
				if recover() != "left" {
					t.Errorf("the taker's panic didn't come through")
				}
			}()
			walk()
		}()
		allLeft(t, "a taker that panicked", all)
	}
}

// TestWalksWithinWalks: each goes its own way, over the same sources.
func TestWalksWithinWalks(t *testing.T) {
	lists := [][]api.Entry{{e("a", 3, ""), e("b", 1, "")}, {e("a", 2, ""), e("c", 1, "")}, {e("b", 1, "z")}}
	want, runs := modelOf(lists), modelKeys(lists)
	f, g := Of(seqs(lists)...), Keys(seqs(lists)...)
	at := 0
	for x := range f {
		if x != want[at] {
			t.Errorf("P11.1: %v, want %v", x, want[at])
		}
		at++
		gives(t, "P11.1: a walk within a walk", f, want)
		for range g {
			givesRuns(t, "P11.2: a walk within a walk", g, runs)
			break
		}
	}
	if at != len(want) {
		t.Errorf("P11.1: %d entries, want %d", at, len(want))
	}
}

func TestOneSourceTwice(t *testing.T) {
	l := []api.Entry{e("a", 2, "x"), e("a", 1, "y"), e("b", 1, "z")}
	x := seq(l...)
	want := []api.Entry{l[0], l[0], l[1], l[1], l[2], l[2]}
	gives(t, "P11.1: one source twice", Of(x, x), want)
	givesRuns(t, "P11.2: one source twice", Keys(x, x), [][]api.Entry{want[:4], want[4:]})
}

func TestKeysBehindOneAnotherAreOf(t *testing.T) {
	for seed := range int64(100) {
		l := seqs(someLists(rand.New(rand.NewSource(seed))))
		runs := slices.Collect(Keys(l...))
		gives(t, "P11.4: seed "+strconv.Itoa(int(seed)), Of(l...), slices.Concat(runs...))
	}
}

func TestOfOneSourceIsThatSource(t *testing.T) {
	for seed := range int64(100) {
		for _, l := range someLists(rand.New(rand.NewSource(seed))) {
			gives(t, "P11.4: one source", Of(seq(l...)), l)
		}
	}
}

// TestOfInOf: however sources that stand behind one another are put together first, it doesn't show.
func TestOfInOf(t *testing.T) {
	for seed := range int64(200) {
		r := rand.New(rand.NewSource(seed))
		lists := someLists(r)
		f := inPieces(r, seqs(lists))
		gives(t, "P11.4: seed "+strconv.Itoa(int(seed)), f, modelOf(lists))
		givesRuns(t, "P11.4: seed "+strconv.Itoa(int(seed)), Keys(f), modelKeys(lists))
	}
	a, b, c := seq(e("k", 1, "a")), seq(e("k", 1, "b")), seq(e("k", 1, "c"))
	want := []api.Entry{e("k", 1, "a"), e("k", 1, "b"), e("k", 1, "c")}
	for _, f := range []iter.Seq[api.Entry]{Of(Of(a, b), c), Of(a, Of(b, c)), Of(a, b, c)} {
		gives(t, "P11.4: of a, b and c", f, want)
	}
}

// inPieces puts sources together in pieces, and these in pieces again.
func inPieces(r *rand.Rand, l []iter.Seq[api.Entry]) iter.Seq[api.Entry] {
	var pieces []iter.Seq[api.Entry]
	for len(l) > 2 && r.Intn(8) > 0 {
		n := 1 + r.Intn(len(l)-1)
		pieces = append(pieces, inPieces(r, l[:n]))
		l = l[n:]
	}
	return Of(append(pieces, l...)...)
}

// TestSourcesThatDoNotRise: what is given is free then, but it ends, and no list is empty.
func TestSourcesThatDoNotRise(t *testing.T) {
	for seed := range int64(100) {
		r := rand.New(rand.NewSource(seed))
		lists := someLists(r)
		for _, l := range lists {
			r.Shuffle(len(l), func(i, j int) { l[i], l[j] = l[j], l[i] })
		}
		all, l := watchedOf(lists)
		for range Of(l...) {
		}
		for run := range Keys(l...) {
			if len(run) == 0 {
				t.Fatalf("P11.2: an empty list")
			}
		}
		allLeft(t, "sources that don't rise", all)
	}
}

// TestSourceThatIsNotTheSame: one that gives something else each time: what it gives by then counts.
func TestSourceThatIsNotTheSame(t *testing.T) {
	times := 0
	x := func(yield func(api.Entry) bool) {
		times++
		yield(e("k", uint64(times), ""))
	}
	f := Of(x, seq(e("a", 1, "")))
	for n := range 3 {
		if got := slices.Collect(f); len(got) != 2 || got[1].Seq != uint64(n+1) {
			t.Errorf("P11.3: walk %d: %v", n, got)
		}
	}
}

func TestManySources(t *testing.T) {
	const n = 1000
	var lists [][]api.Entry
	for i := range n {
		l := []api.Entry{e(strconv.Itoa(i*7%n), uint64(i), "0"), e("z", uint64(i%5), strconv.Itoa(i))}
		lists = append(lists, l)
	}
	gives(t, "P11.1: many sources", Of(seqs(lists)...), modelOf(lists))
	givesRuns(t, "P11.2: many sources", Keys(seqs(lists)...), modelKeys(lists))
}

func TestDeepSources(t *testing.T) {
	const n = 1000
	want := []api.Entry{e("a", 2, "x"), e("a", 1, "x"), e("b", 1, "x")}
	f := Of(seq(want...))
	for i := range n {
		x := e("c", uint64(n-i), "")
		want = append(want, x)
		f = Of(f, seq(x))
	}
	gives(t, "P11.4: Of of Of, again and again", f, want)
}

func TestLongSources(t *testing.T) {
	const n = 20000
	lists := make([][]api.Entry, 3)
	for i := range n {
		at := i * 7 % 3
		if i%11 == 0 {
			at = 0
		}
		lists[at] = append(lists[at], e(strconv.Itoa(100000+i/3), uint64(n-i), ""))
	}
	gives(t, "P11.1: long sources", Of(seqs(lists)...), modelOf(lists))
	givesRuns(t, "P11.2: long sources", Keys(seqs(lists)...), modelKeys(lists))
}
