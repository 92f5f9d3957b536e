package skip

import (
	"iter"
	"math/rand"
	"slices"
	"strings"
	"testing"

	"scree/api"
	"scree/ikey"
)

const top = 1<<64 - 1 // the greatest number of an entry

func at(key string, seq uint64) api.Entry { return api.Entry{Key: key, Seq: seq} }

// filled makes a list of these, each of which must be taken.
func filled(t *testing.T, draws []byte, entries ...api.Entry) *List {
	t.Helper()
	l := New(draws)
	for _, e := range entries {
		if !l.Put(e) {
			t.Fatalf("P5.3: Put(%v): false", e)
		}
	}
	return l
}

// inOrder tells entries in the order that P5.1 names, told without a call of another layer.
func inOrder(entries []api.Entry) []api.Entry {
	sorted := slices.Clone(entries)
	slices.SortFunc(sorted, func(a, b api.Entry) int {
		switch {
		case a.Key != b.Key:
			return strings.Compare(a.Key, b.Key)
		case a.Seq > b.Seq:
			return -1
		case a.Seq < b.Seq:
			return 1
		}
		return 0
	})
	return sorted
}

// notAhead tells those of the entries that aren't ahead of a key and a number, in their order.
func notAhead(entries []api.Entry, key string, seq uint64) []api.Entry {
	var rest []api.Entry
	for _, e := range inOrder(entries) {
		if e.Key > key || e.Key == key && e.Seq <= seq {
			rest = append(rest, e)
		}
	}
	return rest
}

// holds holds a list to have just these entries, and its thinner lists to be those that the towers say.
func holds(t *testing.T, l *List, entries ...api.Entry) {
	t.Helper()
	want := inOrder(entries)
	if got := slices.Collect(l.From("", top)); !slices.Equal(got, want) {
		t.Errorf("P5.7: From gives %v, want %v", got, want)
	}
	if l.Len() != len(want) || len(l.Towers()) != len(want) {
		t.Errorf("P5.6: Len %d, %d towers, want %d", l.Len(), len(l.Towers()), len(want))
	}
	for i := range api.MaxHeight {
		var high []api.Entry
		for k, height := range l.Towers() {
			if height > i {
				high = append(high, want[k])
			}
		}
		var linked []api.Entry
		for n := range l.head.behind(i) {
			linked = append(linked, n.entry)
		}
		if !slices.Equal(linked, high) {
			t.Errorf("P5.4: the list %d has %v, want %v", i, linked, high)
		}
	}
}

// answers holds Seek and From at one place against what the entries say.
func answers(t *testing.T, l *List, entries []api.Entry, key string, seq uint64) {
	t.Helper()
	want := notAhead(entries, key, seq)
	if got := slices.Collect(l.From(key, seq)); !slices.Equal(got, want) {
		t.Errorf("P5.5: From(%q, %d) gives %v, want %v", key, seq, got, want)
	}
	var first api.Entry
	if len(want) > 0 {
		first = want[0]
	}
	if got, ok := l.Seek(key, seq); got != first || ok != (len(want) > 0) {
		t.Errorf("P5.5: Seek(%q, %d): %v, %v, want %v", key, seq, got, ok, first)
	}
}

func sameHeights(t *testing.T, l *List, want ...int) {
	t.Helper()
	if got := l.Towers(); !slices.Equal(got, want) {
		t.Errorf("P5.4: Towers %v, want %v", got, want)
	}
}

func TestExample(t *testing.T) {
	l := New([]byte{0, 13, 5})
	b2, a1, b3, c9 := api.Entry{Key: "b", Seq: 2, Val: "x"}, at("a", 1), at("b", 3), at("c", 9)
	if !l.Put(b2) || !l.Put(a1) || !l.Put(b3) {
		t.Errorf("P5.3: a new entry wasn't taken")
	}
	if l.Put(api.Entry{Key: "b", Seq: 2, Val: "y"}) {
		t.Errorf("P5.3: one with the same key and number was taken")
	}
	if !l.Put(c9) {
		t.Errorf("P5.3: a new entry wasn't taken")
	}
	if got := slices.Collect(l.From("", top)); !slices.Equal(got, []api.Entry{a1, b3, b2, c9}) {
		t.Errorf("P5.1: %v", got)
	}
	sameHeights(t, l, 2, 6, 1, 1)
	rows := []struct {
		key  string
		seq  uint64
		want api.Entry
		ok   bool
	}{{"b", 5, b3, true}, {"b", 2, b2, true}, {"b", 1, c9, true}, {"c", 8, api.Entry{}, false}}
	for _, r := range rows {
		if got, ok := l.Seek(r.key, r.seq); got != r.want || ok != r.ok {
			t.Errorf("P5.5: Seek(%q, %d): %v, %v", r.key, r.seq, got, ok)
		}
	}
	if l.Len() != 4 {
		t.Errorf("P5.6: Len %d", l.Len())
	}
}

func TestEmptyList(t *testing.T) {
	for _, draws := range [][]byte{nil, {}, {0}, {255, 11}} {
		l := New(draws)
		holds(t, l)
		for _, key := range []string{"", "a", "\xff", strings.Repeat("k", 65)} {
			for _, seq := range []uint64{0, 1, top} {
				answers(t, l, nil, key, seq)
			}
		}
		if len(l.Towers()) != 0 || l.Len() != 0 {
			t.Errorf("P5.2: Towers %v, Len %d", l.Towers(), l.Len())
		}
	}
}

func TestOrder(t *testing.T) {
	keys := []string{"", "\x00", "\x00\x00", "a", "a\x00", "aa", "ab", "b", "\x7f", "\x80", "é", "\xff", "\xff\xff"}
	seqs := []uint64{top, top - 1, 1 << 63, 1<<63 - 1, 1 << 32, 5, 1, 0}
	slices.Sort(keys)
	var want []api.Entry
	for _, k := range keys {
		for _, n := range seqs {
			want = append(want, at(k, n))
		}
	}
	r := rand.New(rand.NewSource(1))
	for range 20 {
		in := slices.Clone(want)
		r.Shuffle(len(in), func(i, j int) { in[i], in[j] = in[j], in[i] })
		l := filled(t, []byte{3, 0, 1, 0, 7, 0, 11, 0, 2}, in...)
		if got := slices.Collect(l.From("", top)); !slices.Equal(got, want) {
			t.Fatalf("P5.1: %v", got)
		}
		if got := slices.Collect(l.From("", top)); !slices.IsSortedFunc(got, ikey.Compare) {
			t.Fatalf("P5.1: not the order of ikey.Compare: %v", got)
		}
		holds(t, l, in...)
		for _, e := range want {
			answers(t, l, in, e.Key, e.Seq)
			answers(t, l, in, e.Key, e.Seq+1)
			answers(t, l, in, e.Key, e.Seq-1)
			answers(t, l, in, e.Key+"\x00", e.Seq)
			answers(t, l, in, e.Key+"x", e.Seq)
		}
	}
}

func TestPutOfOneThatIsThere(t *testing.T) {
	first := []api.Entry{{Key: "b", Seq: 2, Val: "x"}, {Key: "a", Seq: 7, Del: true}, {Key: "c", Seq: 0}, {Key: "", Seq: top, Val: "v"}}
	l := filled(t, []byte{4, 2, 9, 0, 6}, first...)
	heights := l.Towers()
	for _, e := range first {
		for _, other := range []api.Entry{e, {Key: e.Key, Seq: e.Seq, Val: "other"}, {Key: e.Key, Seq: e.Seq, Del: true}, {Key: e.Key, Seq: e.Seq, Del: true, Val: "other"}} {
			if l.Put(other) {
				t.Errorf("P5.3: Put(%v) of a list with %v: true", other, e)
			}
		}
	}
	holds(t, l, first...)
	sameHeights(t, l, heights...)
	// What wasn't put in took no draw: the next one has the fifth.
	if !l.Put(at("d", 1)) || l.Towers()[4] != 7 {
		t.Errorf("P5.4: Towers %v", l.Towers())
	}
}

func TestEntriesAreKeptAsTheyAre(t *testing.T) {
	long := strings.Repeat("k", 70000)
	in := []api.Entry{
		{Key: "", Seq: 0},
		{Key: "", Seq: 1, Del: true, Val: "a Val of a delete"},
		{Key: long, Seq: 3, Val: strings.Repeat("\x00", 100000)},
		{Key: long + "\x00", Seq: top, Val: "\xff\xfe"},
		{Key: strings.Repeat("k", 65), Seq: 9, Val: strings.Repeat("v", 513)},
	}
	l := filled(t, []byte{5, 0, 30}, in...)
	holds(t, l, in...)
	for _, e := range in {
		if got, ok := l.Seek(e.Key, e.Seq); got != e || !ok {
			t.Errorf("P5.5: Seek(.., %d): %v", e.Seq, ok)
		}
	}
}

func TestZeroEntryIsAnEntry(t *testing.T) {
	l := filled(t, nil, api.Entry{})
	if e, ok := l.Seek("", 0); e != (api.Entry{}) || !ok {
		t.Errorf("P5.5: %v, %v", e, ok)
	}
	if l.Put(api.Entry{}) || l.Len() != 1 {
		t.Errorf("P5.3: the zero entry was taken twice")
	}
	answers(t, l, []api.Entry{{}}, "", top)
	answers(t, l, []api.Entry{{}}, "\x00", top)
}

func TestHeightOfEveryDraw(t *testing.T) {
	for d := range 256 {
		l := filled(t, []byte{byte(d)}, at("b", 1), at("a", 1))
		sameHeights(t, l, 1+d%12, 1+d%12)
	}
}

func TestDrawsAreGoneRound(t *testing.T) {
	for n := range 40 {
		draws := make([]byte, n)
		for i := range draws {
			draws[i] = byte(i*37 + 200)
		}
		l := New(draws)
		var want []int
		// Falling, so that the towers stand the other way round than they came.
		for i := range 100 {
			l.Put(at("k", uint64(i)))
			d := 0
			if n > 0 {
				d = int(draws[i%n])
			}
			want = append([]int{1 + d%12}, want...)
		}
		sameHeights(t, l, want...)
	}
}

func TestDrawsAreNeitherKeptNorChanged(t *testing.T) {
	room := []byte{1, 2, 3, 4, 5}
	draws := room[:2]
	l := New(draws)
	l.Put(at("a", 1))
	if !slices.Equal(room, []byte{1, 2, 3, 4, 5}) {
		t.Errorf("P5.2: the draws have changed: %v", room)
	}
	for i := range room {
		room[i] = 11
	}
	l.Put(at("b", 1))
	l.Put(at("c", 1))
	sameHeights(t, l, 2, 3, 2)
	if !slices.Equal(room, []byte{11, 11, 11, 11, 11}) {
		t.Errorf("P5.2: the draws have changed: %v", room)
	}
}

func TestTowersIsNewMemory(t *testing.T) {
	l := filled(t, []byte{1, 2, 3}, at("a", 1), at("b", 1), at("c", 1))
	one, two := l.Towers(), l.Towers()
	for i := range one[:cap(one)] {
		one[:cap(one)][i] = -7
	}
	one = append(one, 8)
	sameHeights(t, l, 2, 3, 4)
	l.Put(at("d", 1))
	if !slices.Equal(two, []int{2, 3, 4}) {
		t.Errorf("an answer was touched: %v", two)
	}
	sameHeights(t, l, 2, 3, 4, 2)
}

// permutations gives every order of n things.
func permutations(n int) iter.Seq[[]int] {
	return func(yield func([]int) bool) {
		var grow func(p []int) bool
		grow = func(p []int) bool {
			if len(p) == n {
				return yield(slices.Clone(p))
			}
			for i := range n {
				if !slices.Contains(p, i) && !grow(append(p, i)) {
					return false
				}
			}
			return true
		}
		grow(nil)
	}
}

func TestEveryOrderOfFew(t *testing.T) {
	in := []api.Entry{at("a", 3), at("a", 2), at("aa", 9), at("b", 5), at("b", 1), at("c", 0)}
	for _, draws := range [][]byte{nil, {0, 1, 2}, {11}, {5, 4, 3, 2, 1, 0}, {0, 11}} {
		for order := range permutations(len(in)) {
			l := New(draws)
			heights := make([]int, len(in))
			for i, which := range order {
				l.Put(in[which])
				heights[which] = 1
				if len(draws) > 0 {
					heights[which] += int(draws[i%len(draws)])
				}
			}
			holds(t, l, in...)
			if sameHeights(t, l, heights...); t.Failed() {
				t.Fatalf("P5.7: draws %v, order %v", draws, order)
			}
		}
	}
}

func TestIteratorMayBeLeft(t *testing.T) {
	var in []api.Entry
	for i := range 20 {
		in = append(in, at(string(rune('a'+i)), uint64(i)))
	}
	l := filled(t, []byte{0, 3, 1}, in...)
	walk := l.From("c", top)
	for n := range 20 {
		var got []api.Entry
		for e := range walk {
			if len(got) == n {
				break
			}
			got = append(got, e)
		}
		if want := in[2:]; !slices.Equal(got, want[:min(n, len(want))]) {
			t.Errorf("P5.5: left behind %d: %v", n, got)
		}
		if got := slices.Collect(walk); !slices.Equal(got, in[2:]) {
			t.Errorf("P5.5: gone through again: %v", got)
		}
	}
	// It asks for nothing more behind a false.
	asked := 0
	walk(func(api.Entry) bool { asked++; return false })
	if asked != 1 {
		t.Errorf("P5.5: asked %d times", asked)
	}
	holds(t, l, in...)
}

func TestIteratorsWithinOneAnother(t *testing.T) {
	in := []api.Entry{at("a", 1), at("b", 1), at("c", 1), at("d", 1)}
	l := filled(t, []byte{2, 0}, in...)
	walk := l.From("", top)
	next, stop := iter.Pull(walk)
	defer stop()
	for _, outer := range in {
		got, ok := next()
		if got != outer || !ok {
			t.Errorf("P5.5: %v, %v, want %v", got, ok, outer)
		}
		if inner := slices.Collect(walk); !slices.Equal(inner, in) {
			t.Errorf("P5.5: within: %v", inner)
		}
	}
	if got, ok := next(); ok {
		t.Errorf("P5.5: behind the last: %v", got)
	}
}

func TestIteratorGivesWhatIsThereWhenItIsGoneThrough(t *testing.T) {
	l := New([]byte{1, 0, 5})
	walk := l.From("b", 5)
	var in []api.Entry
	for _, e := range []api.Entry{at("c", 1), at("b", 5), at("a", 9), at("b", 6), at("b", 4), at("d", 0), at("", top)} {
		l.Put(e)
		in = append(in, e)
		if got, want := slices.Collect(walk), notAhead(in, "b", 5); !slices.Equal(got, want) {
			t.Errorf("P5.5: behind Put(%v): %v, want %v", e, got, want)
		}
	}
}

func TestReadsChangeNothing(t *testing.T) {
	in := []api.Entry{at("b", 2), at("a", 1), at("c", 3)}
	l := filled(t, []byte{3, 1}, in...)
	for _, key := range []string{"", "a", "b", "bb", "d"} {
		for _, seq := range []uint64{0, 2, top} {
			answers(t, l, in, key, seq)
			holds(t, l, in...)
			sameHeights(t, l, 2, 4, 4)
		}
	}
	l.Put(at("d", 1))
	sameHeights(t, l, 2, 4, 4, 2)
}

func TestListsAreApart(t *testing.T) {
	draws := []byte{0, 1, 2, 3}
	x, y, z := New(draws), New(draws), New(draws)
	for i := range 8 {
		if !x.Put(at("k", uint64(i))) {
			t.Errorf("P5.3: Put: false")
		}
		if !y.Put(api.Entry{Key: "k", Seq: uint64(i), Val: "y"}) {
			t.Errorf("P5.3: one list touches another")
		}
	}
	holds(t, z)
	sameHeights(t, x, 4, 3, 2, 1, 4, 3, 2, 1)
	sameHeights(t, y, 4, 3, 2, 1, 4, 3, 2, 1)
	for e := range x.From("", top) {
		if e.Val != "" {
			t.Errorf("P5.7: %v", e)
		}
	}
	z.Put(at("k", 3))
	sameHeights(t, z, 1)
}

func TestDrawsShowInTowersAlone(t *testing.T) {
	r := rand.New(rand.NewSource(3))
	for range 30 {
		var in []api.Entry
		for i := range 60 {
			in = append(in, api.Entry{Key: strings.Repeat("k", r.Intn(5)), Seq: uint64(i), Del: r.Intn(3) == 0, Val: "v"})
		}
		draws := make([]byte, r.Intn(30))
		r.Read(draws)
		x := filled(t, draws, in...)
		r.Shuffle(len(in), func(i, j int) { in[i], in[j] = in[j], in[i] })
		y := filled(t, nil, in...)
		holds(t, x, in...)
		holds(t, y, in...)
		for range 50 {
			key, seq := strings.Repeat("k", r.Intn(6)), uint64(r.Intn(62))
			answers(t, x, in, key, seq)
			answers(t, y, in, key, seq)
		}
	}
}

func TestNewestAtOrBelowANumber(t *testing.T) {
	in := []api.Entry{at("a", 1), at("a", 4), at("a", 5), at("b", 2), at("b", top), at("c", 0), at("aa", 3)}
	l := filled(t, []byte{7, 0, 1, 0}, in...)
	for _, key := range []string{"", "a", "aa", "ab", "b", "c", "d"} {
		for _, seq := range []uint64{0, 1, 2, 3, 4, 5, 6, top - 1, top} {
			var newest api.Entry
			found := false
			for _, e := range in {
				if e.Key == key && e.Seq <= seq && (!found || e.Seq > newest.Seq) {
					newest, found = e, true
				}
			}
			got, ok := l.Seek(key, seq)
			if has := ok && got.Key == key; has != found || found && got != newest {
				t.Errorf("P5.8: Seek(%q, %d): %v, %v, want %v, %v", key, seq, got, ok, newest, found)
			}
		}
	}
}

// TestScripts holds a list against the plain list of what was taken, step by step.
func TestScripts(t *testing.T) {
	for seed := range int64(40) {
		r := rand.New(rand.NewSource(seed))
		draws := make([]byte, r.Intn(20))
		r.Read(draws)
		l := New(draws)
		var in []api.Entry
		heights := map[api.Entry]int{}
		someKey := func() string {
			k := make([]byte, r.Intn(4))
			for i := range k {
				k[i] = "\x00a\xff"[r.Intn(3)]
			}
			return string(k)
		}
		for step := range 250 {
			e := api.Entry{Key: someKey(), Seq: uint64(r.Intn(6)) - 2, Del: r.Intn(2) == 0, Val: someKey()}
			there := slices.ContainsFunc(in, func(x api.Entry) bool { return x.Key == e.Key && x.Seq == e.Seq })
			if l.Put(e) == there {
				t.Fatalf("P5.3: seed %d, step %d: Put(%v), there: %v", seed, step, e, there)
			}
			if !there {
				heights[e] = 1
				if len(draws) > 0 {
					heights[e] += int(draws[len(in)%len(draws)]) % 12
				}
				in = append(in, e)
			}
			answers(t, l, in, someKey(), uint64(r.Intn(7))-3)
			if holds(t, l, in...); t.Failed() {
				t.Fatalf("seed %d, step %d", seed, step)
			}
		}
		var want []int
		for _, e := range inOrder(in) {
			want = append(want, heights[e])
		}
		sameHeights(t, l, want...)
	}
}

func TestManyEntries(t *testing.T) {
	const n = 30000
	r := rand.New(rand.NewSource(7))
	draws := make([]byte, 997)
	for i := range draws {
		// Each height half as often as the one below it.
		for draws[i] < api.MaxHeight-1 && r.Intn(2) == 0 {
			draws[i]++
		}
	}
	l := New(draws)
	for i := range n {
		if k := i * 7919 % n; !l.Put(at("k", uint64(k))) {
			t.Fatalf("P5.3: Put(%d): false", k)
		}
	}
	if l.Len() != n {
		t.Fatalf("P5.6: Len %d", l.Len())
	}
	want := uint64(n)
	for e := range l.From("", top) {
		if want--; e != at("k", want) {
			t.Fatalf("P5.7: %v, want %d", e, want)
		}
	}
	for i := range n {
		if e, ok := l.Seek("k", uint64(i)); e.Seq != uint64(i) || !ok || l.Put(e) {
			t.Fatalf("P5.5: Seek(%d): %v, %v", i, e, ok)
		}
	}
}
