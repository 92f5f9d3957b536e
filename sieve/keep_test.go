package sieve

import (
	"iter"
	"math/rand"
	"slices"
	"strconv"
	"strings"
	"testing"

	"scree/api"
	"scree/merge"
)

// rounds runs a test over many random lists.
func rounds(n int64, test func(what string, r *rand.Rand, lists [][]api.Entry)) {
	for seed := range n {
		r := rand.New(rand.NewSource(seed))
		test("seed "+strconv.Itoa(int(seed)), r, someLists(r))
	}
}

func TestKeepExamples(t *testing.T) {
	a, b, c := put("a", 3, "x"), del("b", 5), del("c", 4)
	x, y := source(a, b), source(put("a", 1, "w"), put("b", 2, "v"), c)
	gives(t, "P12.2: below b", Keep(among("b"), x, y), []api.Entry{a, b})
	gives(t, "P12.2: below nothing", Keep(never, x, y), []api.Entry{a})
	gives(t, "P12.2: below everything", Keep(always, x, y), []api.Entry{a, b, c})
	gives(t, "P12.2: the other way round", Keep(among("b"), y, x), []api.Entry{a, b})
}

func TestKeepOfNothing(t *testing.T) {
	if Keep(always) == nil {
		t.Errorf("the rules: an iterator is nil")
	}
	asked := func(key string) bool {
		t.Errorf("P12.2: asked of %q, which is no entry's", key)
		return true
	}
	for n := range 4 {
		gives(t, "P12.2: of nothing", Keep(asked, slices.Repeat([]iter.Seq[api.Entry]{source()}, n)...), nil)
	}
	gives(t, "P12.2: deletes that hide nothing", Keep(never, source(del("a", 1), del("b", 1)), source(del("a", 2))), nil)
}

// TestKeepOfEquals: of one key and number the earlier source's counts, whether it is deleted or not.
func TestKeepOfEquals(t *testing.T) {
	x, y, d := put("k", 7, "x"), put("k", 7, "y"), del("k", 7)
	gives(t, "P12.2: equals", Keep(never, source(x), source(y), source(d)), []api.Entry{x})
	gives(t, "P12.2: equals", Keep(never, source(y), source(d), source(x)), []api.Entry{y})
	gives(t, "P12.2: equals, a delete first", Keep(never, source(d), source(x)), nil)
	gives(t, "P12.2: equals, a delete first", Keep(always, source(d), source(x)), []api.Entry{d})
	gives(t, "P12.2: equals of one source", Keep(never, source(y, x, d)), []api.Entry{y})
}

// TestKeepGoesOnBehindWhatGoes: a delete that goes ends nothing, wherever it stands.
func TestKeepGoesOnBehindWhatGoes(t *testing.T) {
	keys := []string{"a", "b", "c", "d", "e"}
	for which := range 1 << len(keys) {
		var l, want []api.Entry
		for i, key := range keys {
			if which>>i&1 == 1 {
				l = append(l, del(key, 9))
				continue
			}
			l = append(l, put(key, 9, key))
			want = append(want, put(key, 9, key))
		}
		gives(t, "P12.2: behind deletes that go", Keep(never, source(l...)), want)
		gives(t, "P12.2: deletes that stay", Keep(always, source(l...)), l)
	}
}

func TestKeepAgainstTheModel(t *testing.T) {
	rounds(800, func(what string, r *rand.Rand, lists [][]api.Entry) {
		below := someBelow(r)
		gives(t, "P12.2: "+what, Keep(below, sources(lists)...), modelKeep(below, lists))
	})
}

// TestKeepIsPickOfKeys: over sources that aren't in order too it is what Pick makes of merge's lists.
func TestKeepIsPickOfKeys(t *testing.T) {
	rounds(400, func(what string, r *rand.Rand, lists [][]api.Entry) {
		for _, l := range lists {
			if r.Intn(2) == 0 {
				r.Shuffle(len(l), func(i, j int) { l[i], l[j] = l[j], l[i] })
			}
		}
		below := someBelow(r)
		var want []api.Entry
		for run := range merge.Keys(sources(lists)...) {
			if e, stays := Pick(run, below); stays {
				want = append(want, e)
			}
		}
		gives(t, "P12.2: "+what, Keep(below, sources(lists)...), want)
	})
}

// TestKeepAsksOfEntriesKeys: below is asked of no other key.
func TestKeepAsksOfEntriesKeys(t *testing.T) {
	rounds(200, func(what string, r *rand.Rand, lists [][]api.Entry) {
		keys := keysOf(slices.Concat(lists...))
		below := func(key string) bool {
			if !slices.Contains(keys, key) {
				t.Fatalf("P12.2: %s: asked of %q, which is no entry's", what, key)
			}
			return true
		}
		gives(t, "P12.2: "+what, Keep(below, sources(lists)...), modelKeep(always, lists))
	})
}

func TestKeepGoesThroughNothingByTheCall(t *testing.T) {
	all, l := watchedOf([][]api.Entry{{put("a", 2, "")}, {put("a", 1, "")}, nil})
	asked := 0
	below := func(string) bool {
		asked++
		return true
	}
	f := Keep(below, l...)
	for i, w := range all {
		if w.begun != 0 {
			t.Errorf("P12.2: source %d was gone through by the call", i)
		}
	}
	if asked != 0 {
		t.Errorf("P12.2: below was asked by the call, when no entry was known")
	}
	all[0].list = []api.Entry{put("b", 4, "x")}
	all[2].list = []api.Entry{del("b", 5)}
	gives(t, "P12.2: what the sources give by then", f, []api.Entry{put("a", 1, ""), del("b", 5)})
	all[2].list = nil
	gives(t, "P12.2: and behind that", f, []api.Entry{put("a", 1, ""), put("b", 4, "x")})
	allLeft(t, "walks to the end", all)
}

// TestKeepDoesNotKeepTheList: what is laid into the list of sources behind the call doesn't count; and it is left as it is.
func TestKeepDoesNotKeepTheList(t *testing.T) {
	x, y, z := put("a", 1, "x"), put("b", 2, "y"), put("c", 3, "z")
	l := append(make([]iter.Seq[api.Entry], 0, 4), source(x), source(y))
	f := Keep(never, l...)
	l[0], l[1] = source(z), nil
	l[:3][2] = source(z)
	gives(t, "the rules: the list was changed", f, []api.Entry{x, y})
	if l[1] != nil || l[:4][3] != nil || !slices.Equal(slices.Collect(l[0]), []api.Entry{z}) {
		t.Errorf("the rules: the list isn't as it was")
	}
}

func TestKeepLeavesTheEntriesAsTheyAre(t *testing.T) {
	rounds(60, func(what string, r *rand.Rand, lists [][]api.Entry) {
		before := make([][]api.Entry, len(lists))
		for i := range lists {
			before[i] = slices.Clone(lists[i])
		}
		for range Keep(someBelow(r), sources(lists)...) {
		}
		if !slices.EqualFunc(lists, before, slices.Equal) {
			t.Fatalf("the rules: %s: what was handed in was changed", what)
		}
	})
}

// TestKeepLeftEarly leaves at every point: what was given till then is right, and no source is gone through behind it.
func TestKeepLeftEarly(t *testing.T) {
	rounds(60, func(what string, r *rand.Rand, lists [][]api.Entry) {
		all, l := watchedOf(lists)
		below := someBelow(r)
		f := Keep(below, l...)
		want := modelKeep(below, lists)
		for n := range want {
			var got []api.Entry
			f(func(e api.Entry) bool {
				got = append(got, e)
				return len(got) <= n
			})
			if !slices.Equal(got, want[:n+1]) {
				t.Fatalf("P12.2: %s, left at %d: %v, want %v", what, n, got, want[:n+1])
			}
			allLeft(t, what, all)
		}
		gives(t, "the rules: gone through again: "+what, f, want)
	})
}

// TestKeepOverASourceThatDoesNotEnd: what is left isn't gone through to its end.
func TestKeepOverASourceThatDoesNotEnd(t *testing.T) {
	ended := false
	forever := func(yield func(api.Entry) bool) {
		defer func() { ended = true }()
		for n := 1; yield(put(strings.Repeat("k", n), 1, "")); n++ {
		}
	}
	var got []api.Entry
	for e := range Keep(never, forever, source(del("kk", 2))) {
		if got = append(got, e); len(got) == 2 {
			break
		}
	}
	if want := []api.Entry{put("k", 1, ""), put("kkk", 1, "")}; !ended || !slices.Equal(got, want) {
		t.Errorf("P12.2: left: %v, %v, want %v", ended, got, want)
	}
}

// TestKeepWithATakerThatPanics: who panics leaves too.
func TestKeepWithATakerThatPanics(t *testing.T) {
	all, l := watchedOf([][]api.Entry{{put("a", 2, ""), put("b", 2, "")}, {put("a", 1, ""), put("c", 2, "")}})
	func() {
		defer func() {
			if recover() != "left" {
				t.Errorf("the taker's panic didn't come through")
			}
		}()
		Keep(never, l...)(func(api.Entry) bool { panic("left") })
	}()
	allLeft(t, "a taker that panicked", all)
}

// TestKeepWithinKeep: each walk goes its own way, over the same sources.
func TestKeepWithinKeep(t *testing.T) {
	lists := [][]api.Entry{{put("a", 3, ""), del("b", 1)}, {put("a", 2, ""), put("c", 1, "")}, {put("b", 0, "z")}}
	f, g := Keep(always, sources(lists)...), Keep(never, sources(lists)...)
	want, fewer := modelKeep(always, lists), modelKeep(never, lists)
	at := 0
	for e := range f {
		if e != want[at] {
			t.Errorf("P12.2: %v, want %v", e, want[at])
		}
		at++
		gives(t, "P12.2: a walk within a walk", f, want)
		for range g {
			gives(t, "P12.2: a walk within a walk", g, fewer)
			break
		}
	}
	if at != len(want) {
		t.Errorf("P12.2: %d entries, want %d", at, len(want))
	}
}

func TestAtMostOneOfAKey(t *testing.T) {
	rounds(400, func(what string, r *rand.Rand, lists [][]api.Entry) {
		all := slices.Concat(lists...)
		got := slices.Collect(Keep(someBelow(r), sources(lists)...))
		for i, e := range got {
			if i > 0 && got[i-1].Key >= e.Key {
				t.Fatalf("P12.3: %s: %q behind %q", what, e.Key, got[i-1].Key)
			}
			if !slices.Contains(all, e) {
				t.Fatalf("P12.3: %s: %v is no entry of the sources", what, e)
			}
			for _, other := range all {
				if other.Key == e.Key && other.Seq > e.Seq {
					t.Fatalf("P12.3: %s: %v is newer than %v", what, other, e)
				}
			}
		}
	})
}

// lift puts every number of the lists so high that others have room below.
func lift(lists [][]api.Entry, by uint64) {
	for _, l := range lists {
		for i := range l {
			l[i].Seq = max(l[i].Seq, l[i].Seq+by)
		}
		rise(l)
	}
}

// TestNothingIsToldOtherwise: over what lies below, what was kept tells of every key what all of it told.
func TestNothingIsToldOtherwise(t *testing.T) {
	rounds(600, func(what string, r *rand.Rand, lists [][]api.Entry) {
		lift(lists, 10)
		var older []api.Entry
		for i := range r.Intn(20) {
			older = append(older, someEntry(r, someKeys(), []uint64{0, 1, 2, 9}, "below "+strconv.Itoa(i)))
		}
		there, more := among(keysOf(older)...), someBelow(r)
		kept := map[string]iter.Seq[api.Entry]{
			"of just those below": Keep(there, sources(lists)...),
			"of more":             Keep(func(key string) bool { return there(key) || more(key) }, sources(lists)...),
			"of all":              Keep(always, sources(lists)...),
		}
		all := append(slices.Concat(lists...), older...)
		for which, f := range kept {
			stays := append(slices.Collect(f), older...)
			for _, key := range someKeys() {
				val, is := told(all, key)
				if gotVal, got := told(stays, key); gotVal != val || got != is {
					t.Fatalf("P12.4: %s, true %s: %q tells %q, %v, want %q, %v", what, which, key, gotVal, got, val, is)
				}
			}
		}
	})
}

func TestBelowAllKeepsTheNewestOfEach(t *testing.T) {
	rounds(300, func(what string, r *rand.Rand, lists [][]api.Entry) {
		all := slices.Concat(lists...)
		var want []api.Entry
		for _, key := range keysOf(all) {
			e, _ := modelNewest(all, key)
			want = append(want, e)
		}
		gives(t, "P12.4: always true: "+what, Keep(always, sources(lists)...), want)
	})
}

func TestKeepOverKeep(t *testing.T) {
	rounds(300, func(what string, r *rand.Rand, lists [][]api.Entry) {
		below := someBelow(r)
		f := Keep(below, sources(lists)...)
		want := slices.Collect(f)
		gives(t, "P12.5: "+what, Keep(below, f), want)
		gives(t, "P12.5: of the list: "+what, Keep(below, source(want...)), want)
		gives(t, "P12.5: beside itself: "+what, Keep(below, f, f), want)
	})
}
