package sieve

import (
	"cmp"
	"iter"
	"math"
	"math/rand"
	"slices"
	"strconv"
	"strings"
	"testing"

	"scree/api"
)

func put(key string, seq uint64, val string) api.Entry {
	return api.Entry{Key: key, Seq: seq, Val: val}
}

func del(key string, seq uint64) api.Entry { return api.Entry{Key: key, Seq: seq, Del: true} }

func always(string) bool { return true }

func never(string) bool { return false }

// among: true of these keys alone.
func among(keys ...string) func(string) bool {
	return func(key string) bool { return slices.Contains(keys, key) }
}

func source(l ...api.Entry) iter.Seq[api.Entry] { return slices.Values(l) }

// sources: a source a list.
func sources(lists [][]api.Entry) []iter.Seq[api.Entry] {
	var out []iter.Seq[api.Entry]
	for _, l := range lists {
		out = append(out, source(l...))
	}
	return out
}

// gives holds an answer to give these, each time that it is gone through.
func gives(t *testing.T, what string, f iter.Seq[api.Entry], want []api.Entry) {
	t.Helper()
	for range 2 {
		if got := slices.Collect(f); !slices.Equal(got, want) {
			t.Fatalf("%s: %v, want %v", what, got, want)
		}
	}
}

// keysOf: the keys of some entries, rising, each once.
func keysOf(l []api.Entry) []string {
	var keys []string
	for _, e := range l {
		keys = append(keys, e.Key)
	}
	slices.Sort(keys)
	return slices.Compact(keys)
}

// modelNewest: of a key the newest entry, of equals the first; false, if it has none.
func modelNewest(l []api.Entry, key string) (api.Entry, bool) {
	var of []api.Entry
	for _, e := range l {
		if e.Key == key {
			of = append(of, e)
		}
	}
	slices.SortStableFunc(of, func(a, b api.Entry) int { return cmp.Compare(b.Seq, a.Seq) })
	if len(of) == 0 {
		return api.Entry{}, false
	}
	return of[0], true
}

// modelKeep: what stays of all entries of the sources, key by key, each looked for among all of them.
func modelKeep(below func(string) bool, lists [][]api.Entry) []api.Entry {
	all := slices.Concat(lists...)
	var out []api.Entry
	for _, key := range keysOf(all) {
		e, _ := modelNewest(all, key)
		if !e.Del || below(key) {
			out = append(out, e)
		}
	}
	return out
}

// told: what is read of a key from some entries: a value, or that there is none.
func told(l []api.Entry, key string) (string, bool) {
	e, is := modelNewest(l, key)
	if !is || e.Del {
		return "", false
	}
	return e.Val, true
}

// someKeys: keys that begin one another, with the least and greatest bytes, none, and more than a key may have.
func someKeys() []string {
	return []string{"", "\x00", "\x00\x00", "a", "a\x00", "a\xFF", "aa", "ab", "b", "é", "\xFF", "\xFF\xFF", strings.Repeat("k", 64), strings.Repeat("k", 1000)}
}

// someNumbers: numbers from the least to the greatest, few of them, so that they meet.
func someNumbers() []uint64 {
	return []uint64{0, 1, 2, 3, 1 << 32, 1<<63 - 1, 1 << 63, math.MaxUint64 - 1, math.MaxUint64}
}

// someEntry: of the given keys and numbers; a deleted one may have a value, which counts for nothing.
func someEntry(r *rand.Rand, keys []string, numbers []uint64, val string) api.Entry {
	e := put(keys[r.Intn(len(keys))], numbers[r.Intn(len(numbers))], val)
	e.Del = r.Intn(2) == 0
	return e
}

// rise puts entries in order, equals as they stand.
func rise(l []api.Entry) {
	slices.SortStableFunc(l, func(a, b api.Entry) int {
		return cmp.Or(strings.Compare(a.Key, b.Key), cmp.Compare(b.Seq, a.Seq))
	})
}

// someLists: lists of entries that rise, no two of them alike.
func someLists(r *rand.Rand) [][]api.Entry {
	lists := make([][]api.Entry, r.Intn(7))
	keys, numbers := someKeys(), someNumbers()
	keys = keys[:1+r.Intn(len(keys))]
	numbers = numbers[:1+r.Intn(len(numbers))]
	longest := 1 + r.Intn(16)
	for i := range lists {
		for j := range r.Intn(longest) {
			lists[i] = append(lists[i], someEntry(r, keys, numbers, strconv.Itoa(i)+"."+strconv.Itoa(j)))
		}
		rise(lists[i])
	}
	return lists
}

// someBelow: true of some keys, chosen once.
func someBelow(r *rand.Rand) func(string) bool {
	keys := someKeys()
	r.Shuffle(len(keys), func(i, j int) { keys[i], keys[j] = keys[j], keys[i] })
	return among(keys[:r.Intn(len(keys)+1)]...)
}

// watched: a source that tells how it is gone through.
type watched struct {
	list         []api.Entry
	begun, ended int
}

func (w *watched) walk(yield func(api.Entry) bool) {
	w.begun++
	defer func() { w.ended++ }()
	for _, e := range w.list {
		if !yield(e) {
			return
		}
	}
}

// watchedOf: a watched source a list, and them as sources.
func watchedOf(lists [][]api.Entry) ([]*watched, []iter.Seq[api.Entry]) {
	var all []*watched
	var out []iter.Seq[api.Entry]
	for _, l := range lists {
		w := &watched{list: l}
		all = append(all, w)
		out = append(out, w.walk)
	}
	return all, out
}

// allLeft holds every walk of every source to have ended.
func allLeft(t *testing.T, what string, all []*watched) {
	t.Helper()
	for i, w := range all {
		if w.begun != w.ended {
			t.Fatalf("P12.2: %s: source %d is gone through still: begun %d, ended %d", what, i, w.begun, w.ended)
		}
	}
}
