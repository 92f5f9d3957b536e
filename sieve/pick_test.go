package sieve

import (
	"math"
	"math/rand"
	"slices"
	"strconv"
	"testing"

	"scree/api"
)

// picks holds Pick to answer just this one.
func picks(t *testing.T, what string, l []api.Entry, below func(string) bool, want api.Entry) {
	t.Helper()
	if got, stays := Pick(l, below); !stays || got != want {
		t.Errorf("P12.1: %s: %v, %v, want %v", what, got, stays, want)
	}
}

// picksNone holds Pick to answer the zero entry and false.
func picksNone(t *testing.T, what string, l []api.Entry, below func(string) bool) {
	t.Helper()
	if got, stays := Pick(l, below); stays || got != (api.Entry{}) {
		t.Errorf("P12.1: %s: %v, %v, want nothing", what, got, stays)
	}
}

func TestPickExamples(t *testing.T) {
	for _, below := range []func(string) bool{always, never} {
		picks(t, "example 2", []api.Entry{put("a", 1, "w"), put("a", 3, "x")}, below, put("a", 3, "x"))
		picks(t, "example 2", []api.Entry{put("a", 3, "x"), del("a", 3)}, below, put("a", 3, "x"))
	}
}

func TestPickOfNone(t *testing.T) {
	asked := func(key string) bool {
		t.Errorf("P12.1: asked of %q, which is no entry's", key)
		return true
	}
	picksNone(t, "a nil list", nil, asked)
	picksNone(t, "an empty list", []api.Entry{}, asked)
	picksNone(t, "an empty list with room", make([]api.Entry, 0, 4), asked)
	picksNone(t, "an empty list with entries behind it", []api.Entry{put("a", 1, "x")}[:0], asked)
}

func TestPickOfOne(t *testing.T) {
	x, d := put("a", 1, "x"), del("a", 1)
	picks(t, "a put", []api.Entry{x}, never, x)
	picks(t, "a put", []api.Entry{x}, always, x)
	picks(t, "a delete that may hide something", []api.Entry{d}, always, d)
	picksNone(t, "a delete that hides nothing", []api.Entry{d}, never)
	picks(t, "the zero entry", []api.Entry{{}}, never, api.Entry{})
	picks(t, "an empty value", []api.Entry{put("a", 0, "")}, never, put("a", 0, ""))
}

// TestPickWhereverTheNewestStands: the place in the list says nothing, but among equals.
func TestPickWhereverTheNewestStands(t *testing.T) {
	for n := 1; n < 8; n++ {
		for at := range n {
			l := make([]api.Entry, n)
			for i := range l {
				l[i] = del("k", uint64(i))
			}
			l[at] = put("k", 100, "x")
			picks(t, "a put, newer than deletes", l, never, l[at])
			for i := range l {
				l[i] = put("k", uint64(i), "x")
			}
			l[at] = del("k", 100)
			picks(t, "a delete, newer than puts", l, always, l[at])
			picksNone(t, "a delete, newer than puts, that hides nothing", l, never)
		}
	}
}

func TestPickOfEquals(t *testing.T) {
	x, y, d := put("k", 7, "x"), put("k", 7, "y"), del("k", 7)
	older := put("k", 6, "z")
	for _, below := range []func(string) bool{always, never} {
		picks(t, "the first of equals", []api.Entry{x, y}, below, x)
		picks(t, "the first of equals", []api.Entry{y, x}, below, y)
		picks(t, "the first of equals, behind an older one", []api.Entry{older, y, d, x}, below, y)
	}
	picks(t, "the first of equals, a delete", []api.Entry{older, d, x, y}, always, d)
	picksNone(t, "the first of equals, a delete", []api.Entry{older, d, x, y}, never)
}

// TestPickAtTheEdgesOfNumbers: numbers are compared as they are, without a sign and without a difference.
func TestPickAtTheEdgesOfNumbers(t *testing.T) {
	numbers := someNumbers()
	for i, small := range numbers {
		for _, great := range numbers[i+1:] {
			l := []api.Entry{put("k", small, "old"), put("k", great, "new")}
			picks(t, "the greater number last", l, never, l[1])
			slices.Reverse(l)
			picks(t, "the greater number first", l, never, l[0])
		}
	}
	d := del("k", math.MaxUint64)
	picksNone(t, "the greatest number, deleted", []api.Entry{put("k", 0, "x"), d, put("k", 1<<63, "y")}, never)
}

// TestPickAsksOfTheKey: of that key, and of none besides.
func TestPickAsksOfTheKey(t *testing.T) {
	for _, key := range someKeys() {
		l := []api.Entry{put(key, 1, "x"), del(key, 2)}
		below := func(other string) bool {
			if other != key {
				t.Errorf("P12.1: asked of %q, which is no entry's", other)
			}
			return true
		}
		picks(t, "a delete of an asked key", l, below, l[1])
		picks(t, "a delete of the key below", l, among(key), l[1])
		picksNone(t, "a delete of a key that isn't below", l, among(key+"x", "x"+key))
	}
}

// TestPickAnswersTheEntryAsItIs: a deleted one's value counts for nothing, and is left to it.
func TestPickAnswersTheEntryAsItIs(t *testing.T) {
	odd := api.Entry{Key: "k", Seq: 2, Del: true, Val: "left over"}
	picks(t, "a delete with a value", []api.Entry{put("k", 1, "x"), odd}, always, odd)
	picksNone(t, "a delete with a value", []api.Entry{put("k", 1, "x"), odd}, never)
}

func TestPickAgainstTheModel(t *testing.T) {
	for seed := range int64(500) {
		r := rand.New(rand.NewSource(seed))
		keys, numbers := someKeys(), someNumbers()
		key := keys[r.Intn(len(keys))]
		l := make([]api.Entry, 1+r.Intn(12), 20)
		for i := range l {
			l[i] = someEntry(r, []string{key}, numbers[:1+r.Intn(len(numbers))], strconv.Itoa(i))
		}
		before := slices.Clone(l[:cap(l)])
		below := someBelow(r)
		want, _ := modelNewest(l, key)
		if want.Del && !below(key) {
			picksNone(t, "seed "+strconv.Itoa(int(seed)), l, below)
		} else {
			picks(t, "seed "+strconv.Itoa(int(seed)), l, below, want)
		}
		if !slices.Equal(l[:cap(l)], before) {
			t.Fatalf("the rules: seed %d: the list was changed", seed)
		}
	}
}
