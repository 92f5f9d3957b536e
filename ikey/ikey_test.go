package ikey

import (
	"slices"
	"strings"
	"testing"

	"scree/api"
)

const top = 1<<64 - 1 // the greatest number of an entry

func key(n int) string { return strings.Repeat("k", n) }

func val(n int) string { return strings.Repeat("v", n) }

func put(key, val string) api.Write { return api.Write{Key: key, Val: val} }

func del(key string) api.Write { return api.Write{Key: key, Del: true} }

// delWith is a delete with a Val, which counts as empty.
func delWith(key, val string) api.Write { return api.Write{Key: key, Del: true, Val: val} }

// times is a batch of one write, n times.
func times(n int, w api.Write) []api.Write { return slices.Repeat([]api.Write{w}, n) }

// someWrites: right and wrong ones, of every length that an edge is near.
func someWrites() []api.Write {
	var l []api.Write
	for _, k := range []int{0, 1, 2, api.MaxKey - 1, api.MaxKey, api.MaxKey + 1, 1000} {
		for _, v := range []int{0, 1, api.MaxValue - 1, api.MaxValue, api.MaxValue + 1, 5000} {
			l = append(l, put(key(k), val(v)), delWith(key(k), val(v)))
		}
	}
	return l
}

// someEntries: keys that begin each other or differ by one byte, numbers at the edges, each as a put and deleted.
func someEntries() []api.Entry {
	var l []api.Entry
	for _, k := range []string{"", "\x00", "\x00\x00", "a", "a\x00", "aa", "ab", "b", "\x7f", "\x80", "é", "\xff", "\xff\xff", key(64), key(65)} {
		for _, n := range []uint64{0, 1, 5, 1<<63 - 1, 1 << 63, top - 1, top} {
			l = append(l, api.Entry{Key: k, Seq: n, Val: "x"}, api.Entry{Key: k, Seq: n, Del: true})
		}
	}
	return l
}

func TestCheck(t *testing.T) {
	rows := []struct {
		key  string
		want api.Errno
	}{
		{"", api.ErrKeyEmpty},
		{"a", api.OK},
		{"\x00", api.OK},
		{"\xff\xfe", api.OK},
		{"a\x00b", api.OK},
		{key(63), api.OK},
		{key(64), api.OK},
		{strings.Repeat("\x00", 64), api.OK},
		{key(65), api.ErrKeyLong},
		{strings.Repeat("\x00", 65), api.ErrKeyLong},
		{strings.Repeat("é", 32), api.OK},         // 64 bytes
		{strings.Repeat("é", 33), api.ErrKeyLong}, // 33 runes, but 66 bytes
		{key(100000), api.ErrKeyLong},
	}
	for i, r := range rows {
		if got := Check(r.key); got != r.want {
			t.Errorf("P1.1: row %d: %d, not %d", i, got, r.want)
		}
	}
}

func TestCheckTakesAnyByte(t *testing.T) {
	for b := range 256 {
		if got := Check(string([]byte{byte(b)})); got != api.OK {
			t.Errorf("P1.1: byte %d: %d", b, got)
		}
	}
}

func TestCheckBatch(t *testing.T) {
	rows := []struct {
		name  string
		batch []api.Write
		want  api.Errno
	}{
		{"nil", nil, api.OK},
		{"empty", []api.Write{}, api.OK},
		{"one put", []api.Write{put("a", "1")}, api.OK},
		{"an empty value", []api.Write{put("a", "")}, api.OK},
		{"one key twice", []api.Write{put("a", "1"), del("a"), put("a", "2")}, api.OK},
		{"16 writes", times(16, put("a", "1")), api.OK},
		{"17 writes", times(17, put("a", "1")), api.ErrOps},
		{"ErrOps ahead of all others", times(17, del("")), api.ErrOps},
		{"16 of the empty key", times(16, del("")), api.ErrKeyEmpty},
		{"a key of 64", []api.Write{put(key(64), "")}, api.OK},
		{"a key of 65", []api.Write{put(key(65), "")}, api.ErrKeyLong},
		{"a delete's key of 65", []api.Write{del(key(65))}, api.ErrKeyLong},
		{"a value of 512", []api.Write{put("a", val(512))}, api.OK},
		{"a value of 513", []api.Write{put("a", val(513))}, api.ErrValueLong},
		{"a delete's Val of 513", []api.Write{delWith("a", val(513))}, api.OK},
		{"the empty key ahead of its value", []api.Write{put("", val(513))}, api.ErrKeyEmpty},
		{"the long key ahead of its value", []api.Write{put(key(65), val(513))}, api.ErrKeyLong},
		{"the first wrong write: value", []api.Write{put("a", ""), put("a", val(513)), del(""), del(key(65))}, api.ErrValueLong},
		{"the first wrong write: long", []api.Write{put("a", ""), del(key(65)), del(""), put("a", val(513))}, api.ErrKeyLong},
		{"the first wrong write: empty", []api.Write{put("a", ""), del(""), del(key(65)), put("a", val(513))}, api.ErrKeyEmpty},
		{"the 16th is wrong", append(times(15, del("a")), put("a", val(513))), api.ErrValueLong},
		{"the 17th is wrong", append(times(16, del("a")), del("")), api.ErrOps},
	}
	for _, r := range rows {
		if got := CheckBatch(r.batch); got != r.want {
			t.Errorf("P1.2: %s: %d, not %d", r.name, got, r.want)
		}
	}
}

func TestCompare(t *testing.T) {
	at := func(key string, seq uint64) api.Entry { return api.Entry{Key: key, Seq: seq} }
	rows := []struct {
		a, b api.Entry
		want int
	}{
		{at("a", 5), at("a", 4), -1},
		{at("a", 4), at("a", 5), 1},
		{at("a", 5), at("a", 5), 0},
		{at("a", 5), at("ab", 9), -1},
		{at("ab", 9), at("a", 5), 1},
		{at("b", 5), at("ab", 9), 1},
		{at("ab", 9), at("b", 5), -1},
		{at("", 0), at("\x00", 9), -1},
		{at("a", 0), at("a\x00", 9), -1},
		{at("\x7f", 0), at("\x80", 9), -1}, // bytes have no sign
		{at("\xff", 0), at("z", 9), 1},
		{at("a", 0), at("a", top), 1}, // nor have numbers
		{at("a", 1<<63), at("a", 1<<63-1), -1},
		{at("a", 0), at("a", 1<<32), 1},
		{at("", 3), at("", 3), 0},
	}
	for i, r := range rows {
		if got := Compare(r.a, r.b); got != r.want {
			t.Errorf("P1.3: row %d: %d, not %d", i, got, r.want)
		}
	}
}

func TestCompareLooksNeitherAtDelNorAtVal(t *testing.T) {
	a := api.Entry{Key: "a", Seq: 5, Val: "x"}
	for _, b := range []api.Entry{{Key: "a", Seq: 5, Val: "y"}, {Key: "a", Seq: 5, Del: true}, {Key: "a", Seq: 5, Del: true, Val: "z"}} {
		if got, back := Compare(a, b), Compare(b, a); got != 0 || back != 0 {
			t.Errorf("P1.3: %v: %d, %d", b, got, back)
		}
	}
}

func TestWeight(t *testing.T) {
	rows := []struct {
		e    api.Entry
		want int
	}{
		{api.Entry{Key: "ab", Val: "xyz"}, 455},
		{api.Entry{Key: "ab", Seq: top, Val: "xyz"}, 455},
		{api.Entry{Key: "ab", Del: true}, 452},
		{api.Entry{Key: "ab", Del: true, Val: val(513)}, 452},
		{api.Entry{}, 448},
		{api.Entry{Key: "a"}, 450},
		{api.Entry{Key: key(64), Val: val(512)}, 1088},
		{api.Entry{Key: key(64), Del: true, Val: val(512)}, 576},
		{api.Entry{Key: key(65), Val: val(513)}, 1091},
		{api.Entry{Key: key(70000), Val: val(70000)}, 210448},
		{api.Entry{Key: "é", Val: "é"}, 454}, // bytes count, not runes
	}
	for i, r := range rows {
		if got := Weight(r.e); got != r.want {
			t.Errorf("P1.4: row %d: %d, not %d", i, got, r.want)
		}
	}
}

func TestBatchWeight(t *testing.T) {
	rows := []struct {
		name  string
		batch []api.Write
		want  int
	}{
		{"nil", nil, 0},
		{"empty", []api.Write{}, 0},
		{"a put and a delete", []api.Write{put("ab", "xyz"), delWith("ab", "gone")}, 907},
		{"one key twice counts twice", []api.Write{put("a", "1"), put("a", "1")}, 902},
		{"the heaviest", times(16, put(key(64), val(512))), 17408},
		{"one more than may be", times(17, put(key(64), val(512))), 18496},
		{"what may not be", []api.Write{del(""), put(key(65), val(513))}, 1539},
	}
	for _, r := range rows {
		if got := BatchWeight(r.batch); got != r.want {
			t.Errorf("P1.4: %s: %d, not %d", r.name, got, r.want)
		}
	}
}

func TestEntries(t *testing.T) {
	mixed := []api.Write{put("a", "1"), delWith("b", "gone"), put("a", "2")}
	rows := []struct {
		name  string
		first uint64
		batch []api.Write
		want  []api.Entry
	}{
		{"nil", 7, nil, nil},
		{"empty", 7, []api.Write{}, nil},
		{"mixed", 7, mixed, []api.Entry{{Key: "a", Seq: 7, Val: "1"}, {Key: "b", Seq: 8, Del: true}, {Key: "a", Seq: 9, Val: "2"}}},
		{"from 0", 0, mixed[:2], []api.Entry{{Key: "a", Seq: 0, Val: "1"}, {Key: "b", Seq: 1, Del: true}}},
		{"past the greatest number", top, mixed, []api.Entry{{Key: "a", Seq: top, Val: "1"}, {Key: "b", Seq: 0, Del: true}, {Key: "a", Seq: 1, Val: "2"}}},
		{"up to the greatest number", top - 1, mixed[:2], []api.Entry{{Key: "a", Seq: top - 1, Val: "1"}, {Key: "b", Seq: top, Del: true}}},
		{"past 32 bits", 1<<32 - 1, mixed[:2], []api.Entry{{Key: "a", Seq: 1<<32 - 1, Val: "1"}, {Key: "b", Seq: 1 << 32, Del: true}}},
		{"what may not be", 1, []api.Write{put("", val(513)), delWith(key(65), val(513))}, []api.Entry{{Seq: 1, Val: val(513)}, {Key: key(65), Seq: 2, Del: true}}},
	}
	for _, r := range rows {
		if got := Entries(r.first, r.batch); !slices.Equal(got, r.want) {
			t.Errorf("P1.5: %s: %v", r.name, got)
		}
	}
}

func TestEntriesOfMoreThanMaxOps(t *testing.T) {
	got := Entries(100, times(300, put("a", "1")))
	if len(got) != 300 {
		t.Fatalf("P1.5: %d entries", len(got))
	}
	for i, e := range got {
		if e != (api.Entry{Key: "a", Seq: 100 + uint64(i), Val: "1"}) {
			t.Errorf("P1.5: entry %d: %v", i, e)
		}
	}
}

func TestBatchIsLeftAsItIs(t *testing.T) {
	room := append(someWrites(), put("spare", "room"))
	l := room[: len(room)-1 : len(room)]
	kept := slices.Clone(room)
	CheckBatch(l)
	CheckBatch(l[:3])
	BatchWeight(l)
	Entries(top, l)
	if !slices.Equal(room, kept) {
		t.Errorf("P1.2, P1.4, P1.5: what was handed in has changed")
	}
}

func TestEntriesAreNewMemory(t *testing.T) {
	l := []api.Write{put("a", "1"), del("b")}
	one, two := Entries(1, l), Entries(1, l)
	want := slices.Clone(two)
	for i := range one {
		one[i] = api.Entry{Key: "other"}
	}
	if one = append(one, api.Entry{Key: "more"}); len(one) != 3 {
		t.Fatal("append")
	}
	l[0], l[1] = put("x", "y"), put("x", "y")
	if !slices.Equal(two, want) {
		t.Errorf("P1.5: an answer was touched: %v", two)
	}
}

func TestCompareIsAnOrder(t *testing.T) {
	l := someEntries()
	for _, a := range l {
		for _, b := range l {
			ab := Compare(a, b)
			if ab < -1 || ab > 1 || Compare(b, a) != -ab {
				t.Fatalf("P1.6: %v, %v: %d, and back %d", a, b, ab, Compare(b, a))
			}
			if same := a.Key == b.Key && a.Seq == b.Seq; (ab == 0) != same {
				t.Fatalf("P1.6: %v, %v: %d", a, b, ab)
			}
			if ab > 0 {
				continue
			}
			for _, c := range l {
				if Compare(b, c) <= 0 && Compare(a, c) > 0 {
					t.Fatalf("P1.6: %v, %v, %v", a, b, c)
				}
			}
		}
	}
}

func TestWeightsLieWithinTheirBounds(t *testing.T) {
	least, greatest := api.MaxEntry+1, 0
	for k := 1; k <= api.MaxKey; k++ {
		for v := 0; v <= api.MaxValue; v++ {
			for _, w := range []api.Write{put(key(k), val(v)), delWith(key(k), val(v))} {
				if CheckBatch([]api.Write{w}) != api.OK {
					t.Fatalf("P1.7: a key of %d, a value of %d: refused", k, v)
				}
				n := BatchWeight([]api.Write{w})
				least, greatest = min(least, n), max(greatest, n)
			}
		}
	}
	if least != api.MinEntry || greatest != api.MaxEntry {
		t.Errorf("P1.7: %d to %d", least, greatest)
	}
	for n := range 20 {
		l := times(n, put(key(64), val(512)))
		if CheckBatch(l) == api.OK && BatchWeight(l) > api.MaxBatch {
			t.Errorf("P1.7: %d writes weigh %d", n, BatchWeight(l))
		}
	}
	if n := BatchWeight(times(api.MaxOps, put(key(64), val(512)))); n != api.MaxBatch {
		t.Errorf("P1.7: the heaviest batch: %d", n)
	}
}

func TestBatchWeightIsASum(t *testing.T) {
	l := someWrites()
	whole := BatchWeight(l)
	for _, first := range []uint64{0, 1, 1 << 63, top - 3, top} {
		sum := 0
		for _, e := range Entries(first, l) {
			sum += Weight(e)
		}
		if sum != whole {
			t.Errorf("P1.7: the entries from %d on: %d, not %d", first, sum, whole)
		}
	}
	for i := range len(l) + 1 {
		if n := BatchWeight(l[:i]) + BatchWeight(l[i:]); n != whole {
			t.Errorf("P1.7: cut at %d: %d, not %d", i, n, whole)
		}
	}
}

func TestLaterWriteComesFirst(t *testing.T) {
	l := []api.Write{put("a", "1"), put("b", "1"), del("a"), put("a", "2"), put("a", "3"), del("b"), put("a", "3")}
	for _, first := range []uint64{0, 1, 1<<63 - 3, top - uint64(len(l)) + 1} {
		entries := Entries(first, l)
		for i, a := range entries {
			for _, b := range entries[i+1:] {
				if a.Key == b.Key && (Compare(b, a) != -1 || Compare(a, b) != 1) {
					t.Errorf("P1.8: from %d on: %v and the later %v: %d", first, a, b, Compare(b, a))
				}
			}
		}
		slices.SortFunc(entries, Compare)
		if n := slices.IndexFunc(entries, func(e api.Entry) bool { return e.Key == "b" }); n < 1 || entries[0].Val != "3" || entries[0].Seq != first+6 || !entries[n].Del {
			t.Errorf("P1.8: from %d on: sorted: %v", first, entries)
		}
	}
}
