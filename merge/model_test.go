package merge

import (
	"cmp"
	"iter"
	"math"
	"math/rand"
	"slices"
	"strconv"
	"strings"
	"testing"

	"scree/api"
)

func e(key string, seq uint64, val string) api.Entry { return api.Entry{Key: key, Seq: seq, Val: val} }

func seq(l ...api.Entry) iter.Seq[api.Entry] { return slices.Values(l) }

// seqs: a source a list.
func seqs(lists [][]api.Entry) []iter.Seq[api.Entry] {
	var out []iter.Seq[api.Entry]
	for _, l := range lists {
		out = append(out, seq(l...))
	}
	return out
}

// order: the order of the entries, written here once more.
func order(a, b api.Entry) int {
	if a.Key != b.Key {
		return strings.Compare(a.Key, b.Key)
	}
	return cmp.Compare(b.Seq, a.Seq)
}

// modelOf: what Of gives: all behind one another, source by source, and then sorted without a change among equals.
func modelOf(lists [][]api.Entry) []api.Entry {
	all := slices.Concat(lists...)
	slices.SortStableFunc(all, order)
	return all
}

// modelKeys: what Keys gives.
func modelKeys(lists [][]api.Entry) [][]api.Entry {
	var out [][]api.Entry
	for i, x := range modelOf(lists) {
		if i == 0 || out[len(out)-1][0].Key != x.Key {
			out = append(out, nil)
		}
		out[len(out)-1] = append(out[len(out)-1], x)
	}
	return out
}

// gives holds an answer to give these, each time that it is gone through.
func gives(t *testing.T, what string, f iter.Seq[api.Entry], want []api.Entry) {
	t.Helper()
	for range 2 {
		if got := slices.Collect(f); !slices.Equal(got, want) {
			t.Fatalf("%s: %v, want %v", what, got, want)
		}
	}
}

// givesRuns holds an answer of Keys to give these lists, each time that it is gone through.
func givesRuns(t *testing.T, what string, f iter.Seq[[]api.Entry], want [][]api.Entry) {
	t.Helper()
	for range 2 {
		if got := slices.Collect(f); !slices.EqualFunc(got, want, slices.Equal) {
			t.Fatalf("%s: %v, want %v", what, got, want)
		}
	}
}

// someKeys: keys that begin one another, with the least and greatest bytes, none, and more than a key may have.
func someKeys() []string {
	return []string{"", "\x00", "\x00\x00", "a", "a\x00", "a\xFF", "aa", "ab", "b", "é", "\xFF", "\xFF\xFF", strings.Repeat("k", 64), strings.Repeat("k", 1000)}
}

// someNumbers: numbers from the least to the greatest, few of them, so that they meet.
func someNumbers() []uint64 {
	return []uint64{0, 1, 2, 3, 1 << 32, 1 << 63, 1<<63 - 1, math.MaxUint64 - 1, math.MaxUint64}
}

// someLists: lists of entries that rise, no two of them alike.
func someLists(r *rand.Rand) [][]api.Entry {
	lists := make([][]api.Entry, r.Intn(9))
	keys, numbers := someKeys(), someNumbers()
	keys = keys[:1+r.Intn(len(keys))]
	numbers = numbers[:1+r.Intn(len(numbers))]
	longest := 1 + r.Intn(20)
	for i := range lists {
		for j := range r.Intn(longest) {
			x := e(keys[r.Intn(len(keys))], numbers[r.Intn(len(numbers))], strconv.Itoa(i)+"."+strconv.Itoa(j))
			x.Del = r.Intn(3) == 0
			lists[i] = append(lists[i], x)
		}
		slices.SortStableFunc(lists[i], order)
	}
	return lists
}

// watched: a source that tells how it is gone through.
type watched struct {
	list         []api.Entry
	begun, ended int
	given        int
}

func (w *watched) walk(yield func(api.Entry) bool) {
	w.begun++
	defer func() { w.ended++ }()
	for _, x := range w.list {
		w.given++
		if !yield(x) {
			return
		}
	}
}

// watchedOf: a watched source a list, and them as sources.
func watchedOf(lists [][]api.Entry) ([]*watched, []iter.Seq[api.Entry]) {
	var all []*watched
	var out []iter.Seq[api.Entry]
	for _, l := range lists {
		w := &watched{list: l}
		all = append(all, w)
		out = append(out, w.walk)
	}
	return all, out
}

// allLeft holds every walk of every source to have ended.
func allLeft(t *testing.T, what string, all []*watched) {
	t.Helper()
	for i, w := range all {
		if w.begun != w.ended {
			t.Fatalf("P11.3: %s: source %d is gone through still: begun %d, ended %d", what, i, w.begun, w.ended)
		}
	}
}
