package mem

import (
	"cmp"
	"fmt"
	"iter"
	"math/rand"
	"slices"
	"strings"
	"testing"

	"scree/api"
)

const top = 1<<64 - 1 // the greatest number of an entry

func put(key, val string) api.Write { return api.Write{Key: key, Val: val} }

func del(key string) api.Write { return api.Write{Key: key, Del: true} }

// add puts a batch in, which must be taken.
func add(t *testing.T, m *Table, first uint64, l ...api.Write) {
	t.Helper()
	if err := m.Add(first, l); err != api.OK {
		t.Fatalf("P6.2: Add(%d, %v): %d", first, l, err)
	}
}

// told tells entries as a short text: key, number, and the value or that it is deleted.
func told(entries iter.Seq[api.Entry]) string {
	var s []string
	for e := range entries {
		val := e.Val
		if e.Del {
			val = "deleted" + e.Val
		}
		s = append(s, fmt.Sprintf("%s.%d=%s", e.Key, e.Seq, val))
	}
	return strings.Join(s, " ")
}

// got tells what Get answers, as told does; "none" for the zero entry and false.
func got(m *Table, key string, at uint64) string {
	e, ok := m.Get(key, at)
	if !ok && e == (api.Entry{}) {
		return "none"
	}
	if !ok {
		return fmt.Sprint("false with ", e)
	}
	return told(slices.Values([]api.Entry{e}))
}

// state tells all that a memtable answers beside what is read at a number.
func state(m *Table) string {
	return fmt.Sprint(told(m.All()), " | ", m.Weight(), " ", m.Last(), " ", m.Frozen())
}

func same(t *testing.T, what, got, want string) {
	t.Helper()
	if got != want {
		t.Errorf("%s: %q, want %q", what, got, want)
	}
}

// example makes the memtable of the chapter's first example.
func example(t *testing.T) *Table {
	t.Helper()
	m := New(nil)
	add(t, m, 1, put("a", "1"), put("b", "2"), del("a"))
	return m
}

func TestNewIsEmptyAndNotFrozen(t *testing.T) {
	for _, draws := range [][]byte{nil, {}, {0}, {255, 3, 11}} {
		m := New(draws)
		same(t, "P6.1", state(m), " | 0 0 false")
		same(t, "P6.1", told(m.From("", top)), "")
		same(t, "P6.1", got(m, "a", top)+got(m, "", top), "nonenone")
	}
}

func TestDrawsDecideTheTowersAlone(t *testing.T) {
	draws := []byte{0, 13, 5}
	high, low := New(draws), New(nil)
	draws[0], draws[1], draws[2] = 7, 7, 7
	for _, m := range []*Table{high, low} {
		add(t, m, 2, put("b", "x"))
		add(t, m, 1, put("a", "y"))
		add(t, m, 3, put("b", "z"))
		add(t, m, 2, put("b", "no"))
		add(t, m, 9, put("c", "w"))
	}
	if want := []int{2, 6, 1, 1}; !slices.Equal(high.Towers(), want) {
		t.Errorf("P6.1: towers %v, want %v", high.Towers(), want)
	}
	if want := []int{1, 1, 1, 1}; !slices.Equal(low.Towers(), want) {
		t.Errorf("P6.1: towers without draws %v, want %v", low.Towers(), want)
	}
	same(t, "P6.1: the draws show", state(high), state(low))
}

func TestTheFirstExample(t *testing.T) {
	m := example(t)
	same(t, "P6.3", got(m, "a", 2), "a.1=1")
	same(t, "P6.3", got(m, "a", 3), "a.3=deleted")
	same(t, "P6.3", got(m, "a", 0), "none")
	same(t, "P6.4", told(m.From("", 2)), "a.1=1 b.2=2")
	same(t, "P6.4", told(m.From("aa", 9)), "b.2=2")
	same(t, "P6.4, P6.5", state(m), "a.3=deleted a.1=1 b.2=2 | 1352 3 false")
}

func TestTheSecondExample(t *testing.T) {
	m := example(t)
	ahead := state(m)
	add(t, m, 2, put("b", "9"))
	same(t, "P6.2: a place that is taken", state(m), ahead)
	if err := m.Add(4, []api.Write{put(strings.Repeat("k", 65), "")}); err != api.ErrKeyLong {
		t.Errorf("P6.2: a key of 65 bytes: %d", err)
	}
	same(t, "P6.2: refused", state(m), ahead)
	m.Freeze()
	if err := m.Add(9, nil); err != api.ErrMemFrozen {
		t.Errorf("P6.2: an empty batch into a frozen one: %d", err)
	}
	same(t, "P6.6", got(m, "a", 2), "a.1=1")
}

func TestAddRefuses(t *testing.T) {
	long := put("k", strings.Repeat("v", api.MaxValue+1))
	for _, c := range []struct {
		batch []api.Write
		err   api.Errno
	}{
		{[]api.Write{put("c", ""), put("", "")}, api.ErrKeyEmpty},
		{[]api.Write{put("c", ""), del(strings.Repeat("k", api.MaxKey+1))}, api.ErrKeyLong},
		{[]api.Write{put("c", ""), long}, api.ErrValueLong},
		{[]api.Write{put("c", ""), long, put("", "")}, api.ErrValueLong},
		{make([]api.Write, api.MaxOps+1), api.ErrOps},
	} {
		m := example(t)
		ahead := state(m)
		if err := m.Add(4, c.batch); err != c.err {
			t.Errorf("P6.2: Add(%v): %d, want %d", c.batch, err, c.err)
		}
		same(t, "P6.2: refused", state(m), ahead)
		m.Freeze()
		frozen := state(m)
		if err := m.Add(4, c.batch); err != api.ErrMemFrozen {
			t.Errorf("P6.2: frozen, Add(%v): %d", c.batch, err)
		}
		same(t, "P6.2: refused", state(m), frozen)
	}
}

func TestAddTakesWhatIsAtTheLimits(t *testing.T) {
	m := New(nil)
	key, val := strings.Repeat("\xff", api.MaxKey), strings.Repeat("v", api.MaxValue)
	var batch []api.Write
	for range api.MaxOps {
		batch = append(batch, put(key, val))
	}
	add(t, m, 0, batch...)
	if m.Weight() != api.MaxBatch || m.Last() != api.MaxOps-1 {
		t.Errorf("P6.5: weight %d, last %d", m.Weight(), m.Last())
	}
	add(t, m, 20, api.Write{Key: "d", Del: true, Val: val + val})
	same(t, "P6.2: a delete's Val", got(m, "d", 20), "d.20=deleted")
	if m.Weight() != api.MaxBatch+api.MinEntry {
		t.Errorf("P6.5: a delete's Val weighs: %d", m.Weight())
	}
}

func TestNumbersAtTheirEnds(t *testing.T) {
	m := New(nil)
	add(t, m, 0, put("a", "0"))
	same(t, "P6.5", state(m), "a.0=0 | 451 0 false")
	same(t, "P6.3", got(m, "a", 0), "a.0=0")
	same(t, "P6.4", told(m.From("", 0)), "a.0=0")
	add(t, m, top, put("b", "t"), put("b", "0"), del("c"))
	if m.Last() != top {
		t.Errorf("P6.5: behind 2^64 - 1 comes 0: Last %d", m.Last())
	}
	same(t, "P6.3", got(m, "b", top)+" "+got(m, "b", top-1), fmt.Sprintf("b.%d=t b.0=0", uint64(top)))
	same(t, "P6.4", told(m.From("", 1)), "a.0=0 b.0=0 c.1=deleted")
}

func TestLastIsTheGreatestNotTheLatest(t *testing.T) {
	m := New(nil)
	add(t, m, 7, put("a", ""))
	add(t, m, 3, put("z", ""))
	if m.Last() != 7 {
		t.Errorf("P6.5: Last %d, want 7", m.Last())
	}
	add(t, m, 50)
	add(t, m, 50, []api.Write{}...)
	same(t, "P6.5: no writes", state(m), "a.7= z.3= | 900 7 false")
}

func TestAPlaceThatIsTakenWithinABatch(t *testing.T) {
	m := New(nil)
	add(t, m, 5, put("b", "old"))
	add(t, m, 4, put("a", "1"), put("b", "new, and longer"), put("c", "3"))
	same(t, "P6.2", state(m), "a.4=1 b.5=old c.6=3 | 1355 6 false")
	add(t, m, 5, del("b"))
	same(t, "P6.2: a delete at a put's place", got(m, "b", 9), "b.5=old")
	add(t, m, 4, put("b", "another number"))
	same(t, "P6.2: another number", told(m.From("b", 4)), "b.4=another number")
}

func TestGetTakesAnyText(t *testing.T) {
	m := example(t)
	for _, key := range []string{"", "\x00", "a\x00", "aa", "A", "b\xff", "\xff", strings.Repeat("a", 1000), "日本"} {
		same(t, "P6.3: "+key, got(m, key, top), "none")
	}
}

func TestGetLeavesNewerEntriesOut(t *testing.T) {
	m := New([]byte{5, 1})
	add(t, m, 2, put("k", "2"))
	add(t, m, 6, put("k", "6"))
	add(t, m, 4, del("k"))
	add(t, m, 3, put("j", "j"))
	for at, want := range []string{"none", "none", "k.2=2", "k.2=2", "k.4=deleted", "k.4=deleted", "k.6=6", "k.6=6"} {
		same(t, fmt.Sprint("P6.3: at ", at), got(m, "k", uint64(at)), want)
	}
}

func TestFromTellsOneEntryAKey(t *testing.T) {
	m := New([]byte{2, 0, 7})
	add(t, m, 1, put("a", "1"), put("b", "2"), put("ab", "3"), put("a", "4"), put("c", "5"), del("b"))
	same(t, "P6.4", told(m.From("", top)), "a.4=4 ab.3=3 b.6=deleted c.5=5")
	same(t, "P6.4", told(m.From("", 5)), "a.4=4 ab.3=3 b.2=2 c.5=5")
	same(t, "P6.4", told(m.From("", 2)), "a.1=1 b.2=2")
	same(t, "P6.4: the key itself", told(m.From("ab", 5)), "ab.3=3 b.2=2 c.5=5")
	same(t, "P6.4: unseen at the key itself", told(m.From("ab", 2)), "b.2=2")
	same(t, "P6.4: a key between", told(m.From("aa", 4)), "ab.3=3 b.2=2")
	same(t, "P6.4: behind all", told(m.From("c\x00", top)), "")
	same(t, "P6.4: below all numbers", told(m.From("", 0)), "")
	same(t, "P6.4", told(m.All()), "a.4=4 a.1=1 ab.3=3 b.6=deleted b.2=2 c.5=5")
}

func TestIteratorsMayBeLeftAndGoneThroughAgain(t *testing.T) {
	m := example(t)
	from, all := m.From("", 9), m.All()
	for _, seq := range []iter.Seq[api.Entry]{from, all} {
		for e := range seq {
			same(t, "rule 7: left", e.Key, "a")
			break
		}
	}
	add(t, m, 4, put("aa", "4"), put("b", "5"))
	same(t, "rule 7: what it holds now", told(from), "a.3=deleted aa.4=4 b.5=5")
	same(t, "rule 7: what it holds now", told(all), "a.3=deleted a.1=1 aa.4=4 b.5=5 b.2=2")
	same(t, "rule 7: again", told(from), "a.3=deleted aa.4=4 b.5=5")
}

func TestABatchIsNeitherKeptNorChanged(t *testing.T) {
	m := New(nil)
	room := []api.Write{put("a", "1"), {Key: "b", Del: true, Val: "v"}, put("spare", "s")}
	batch := slices.Clone(room)
	add(t, m, 1, batch[:2]...)
	if !slices.Equal(batch, room) {
		t.Errorf("rule 3: the batch became %v", batch)
	}
	batch[0], batch[1] = put("x", "9"), put("y", "9")
	same(t, "rule 3: not kept", state(m), "a.1=1 b.2=deleted | 901 2 false")
}

func TestTwoDontTouchOneAnother(t *testing.T) {
	draws := []byte{1, 2}
	a, b := New(draws), New(draws)
	add(t, a, 1, put("k", "a"))
	a.Freeze()
	same(t, "chapter 6: two memtables", state(b), " | 0 0 false")
	add(t, b, 1, put("k", "b"))
	same(t, "chapter 6: two memtables", got(a, "k", 1)+got(b, "k", 1), "k.1=ak.1=b")
}

func TestAFrozenOneIsReadAsEver(t *testing.T) {
	m := example(t)
	ahead := told(m.All()) + "|" + told(m.From("", 2)) + "|" + told(m.From("aa", 9))
	m.Freeze()
	m.Freeze()
	if !m.Frozen() {
		t.Error("P6.6: not frozen")
	}
	if err := m.Add(4, []api.Write{put("c", "3")}); err != api.ErrMemFrozen {
		t.Errorf("P6.6: Add: %d", err)
	}
	same(t, "P6.6", told(m.All())+"|"+told(m.From("", 2))+"|"+told(m.From("aa", 9)), ahead)
	same(t, "P6.6", state(m), "a.3=deleted a.1=1 b.2=2 | 1352 3 true")
}

func TestLaterBatchesAreUnseen(t *testing.T) {
	m := example(t)
	read := func() string {
		s := ""
		for at := range uint64(4) {
			s += told(m.From("", at)) + "|"
			for _, key := range []string{"a", "aa", "b", "c"} {
				s += got(m, key, at) + ","
			}
		}
		return s
	}
	ahead := read()
	add(t, m, 4, del("b"), put("a", "5"), put("aa", "6"), put("c", "7"))
	same(t, "P6.7", read(), ahead)
	add(t, m, top, del("a"))
	same(t, "P6.7", read(), ahead)
}

// model: the entries that were put in, the first one of each key and number.
type model []api.Entry

func (l *model) add(first uint64, batch []api.Write) {
	for i, w := range batch {
		e := api.Entry{Key: w.Key, Seq: first + uint64(i), Del: w.Del, Val: w.Val}
		if w.Del {
			e.Val = ""
		}
		if !slices.ContainsFunc(*l, func(x api.Entry) bool { return x.Key == e.Key && x.Seq == e.Seq }) {
			*l = append(*l, e)
		}
	}
}

// newest tells, of each key from one on, the newest entry at or below a number, rising.
func (l model) newest(key string, at uint64) []api.Entry {
	found := map[string]api.Entry{}
	for _, e := range l {
		if was, ok := found[e.Key]; e.Key >= key && e.Seq <= at && (!ok || was.Seq < e.Seq) {
			found[e.Key] = e
		}
	}
	var list []api.Entry
	for _, e := range found {
		list = append(list, e)
	}
	slices.SortFunc(list, func(a, b api.Entry) int { return strings.Compare(a.Key, b.Key) })
	return list
}

// inOrder tells all entries, by key, the newest of each key first.
func (l model) inOrder() []api.Entry {
	return slices.SortedFunc(slices.Values(l), func(a, b api.Entry) int {
		return cmp.Or(strings.Compare(a.Key, b.Key), cmp.Compare(b.Seq, a.Seq))
	})
}

// holds holds a memtable to answer what the model says, at every number of a few and for every key of a few.
func holds(t *testing.T, m *Table, l model, keys []string, numbers []uint64) {
	t.Helper()
	weight, last := 0, uint64(0)
	for _, e := range l {
		weight += 2*len(e.Key) + len(e.Val) + 448
		last = max(last, e.Seq)
	}
	if m.Weight() != weight || m.Last() != last {
		t.Fatalf("P6.5: weight %d, last %d, want %d, %d", m.Weight(), m.Last(), weight, last)
	}
	if all := slices.Collect(m.All()); !slices.Equal(all, l.inOrder()) {
		t.Fatalf("P6.4: All gives %v, want %v", all, l.inOrder())
	}
	for _, at := range numbers {
		for _, key := range keys {
			want := l.newest(key, at)
			if have := slices.Collect(m.From(key, at)); !slices.Equal(have, want) {
				t.Fatalf("P6.8: From(%q, %d): %v, want %v", key, at, have, want)
			}
			e, ok := m.Get(key, at)
			if there := len(want) > 0 && want[0].Key == key; ok != there || there && e != want[0] || !there && e != (api.Entry{}) {
				t.Fatalf("P6.8: Get(%q, %d): %v %v, of %v", key, at, e, ok, want)
			}
		}
	}
}

func anyBatch(r *rand.Rand, keys []string) []api.Write {
	batch := make([]api.Write, r.Intn(5))
	for i := range batch {
		batch[i] = api.Write{Key: keys[1+r.Intn(len(keys)-1)], Del: r.Intn(3) == 0, Val: strings.Repeat("v", r.Intn(9))}
	}
	return batch
}

func TestAnyBatchesAgainstAPlainList(t *testing.T) {
	keys := []string{"", "a", "a\x00", "ab", "b", "ba", "\xff", "\xff\xff"}
	for seed := range int64(60) {
		r := rand.New(rand.NewSource(seed))
		draws := make([]byte, r.Intn(6))
		r.Read(draws)
		m, l := New(draws), model(nil)
		for range 12 {
			first := uint64(r.Intn(30))
			if r.Intn(8) == 0 {
				first = top - uint64(r.Intn(4))
			}
			batch := anyBatch(r, keys)
			add(t, m, first, batch...)
			l.add(first, batch)
		}
		numbers := []uint64{top, top - 1, top - 3, 1 << 63}
		for at := range uint64(34) {
			numbers = append(numbers, at)
		}
		holds(t, m, l, keys, numbers)
	}
}

func TestBatchesInAnyOrder(t *testing.T) {
	keys := []string{"", "a", "ab", "b", "c"}
	for seed := range int64(40) {
		r := rand.New(rand.NewSource(seed))
		batches, first := make([][]api.Write, 10), make([]uint64, 10)
		next := uint64(1)
		for i := range batches {
			batches[i], first[i] = anyBatch(r, keys), next
			next += uint64(len(batches[i]))
		}
		rising, mixed := New(nil), New([]byte{byte(seed), 3, 200})
		for i := range batches {
			add(t, rising, first[i], batches[i]...)
		}
		for _, i := range r.Perm(len(batches)) {
			add(t, mixed, first[i], batches[i]...)
		}
		same(t, "P6.8: another order", state(mixed), state(rising))
		for at := range next + 1 {
			same(t, "P6.8: another order", told(mixed.From("", at)), told(rising.From("", at)))
		}
	}
}
