package log

import (
	"bytes"
	"fmt"
	"math/rand"
	"slices"
	"strings"
	"testing"

	"scree/api"
	"scree/codec"
	"scree/ikey"
)

func put(key, val string) api.Write { return api.Write{Key: key, Val: val} }

func del(key string) api.Write { return api.Write{Key: key, Del: true} }

// plainly tells what P7.6 says, piece by piece.
func plainly(first uint64, group [][]api.Write) []byte {
	var b bytes.Buffer
	number := func(n uint64) { b.Write(codec.PutUint(nil, n)) }
	text := func(s string) { number(uint64(len(s))); b.WriteString(s) }
	number(first)
	number(uint64(len(group)))
	for _, batch := range group {
		number(uint64(len(batch)))
		for _, w := range batch {
			if w.Del {
				b.WriteByte(1)
				text(w.Key)
				continue
			}
			b.WriteByte(0)
			text(w.Key)
			text(w.Val)
		}
	}
	return b.Bytes()
}

// sameGroup: a nil batch and an empty one are the same; the Val of a delete is empty where it is read again.
func sameGroup(got, want [][]api.Write) bool {
	return slices.EqualFunc(got, want, func(a, b []api.Write) bool {
		return slices.EqualFunc(a, b, func(x, y api.Write) bool {
			if y.Del {
				y.Val = ""
			}
			return x == y
		})
	})
}

func checkGet(t *testing.T, what string, rec []byte, first uint64, group [][]api.Write, err api.Errno) {
	t.Helper()
	f, g, e := Get(rec)
	if f != first || e != err || !sameGroup(g, group) {
		t.Errorf("%s: Get: %d, %v, %d; want %d, %v, %d", what, f, g, e, first, group, err)
	}
}

func TestPutOfTheExample(t *testing.T) {
	group := [][]api.Write{{put("a", "1"), {Key: "b", Del: true, Val: "gone"}}, nil}
	rec := Put(300, group)
	if s := fmt.Sprintf("% X", rec); s != "AC 02 02 02 00 01 61 01 31 01 01 62 00" {
		t.Errorf("P7.6: %s", s)
	}
	checkGet(t, "P7.7", rec, 300, [][]api.Write{{put("a", "1"), del("b")}, nil}, api.OK)
	checkGet(t, "P7.7: a byte less", rec[:len(rec)-1], 0, nil, api.ErrCodecShort)
	checkGet(t, "P7.7: a byte more", append(rec, 0), 0, nil, api.ErrCodecForm)
}

func TestPutOfWhateverIsHandedIn(t *testing.T) {
	long := strings.Repeat("x", 70000)
	many := slices.Repeat([]api.Write{put("k", "v"), {Del: true, Key: "", Val: "w"}}, 300)
	for i, group := range [][][]api.Write{
		nil,
		{},
		{nil},
		{{}, nil, {}},
		{{put("", "")}},
		{{put(long, long), {Key: long, Val: long, Del: true}}},
		{many, nil, many},
		slices.Repeat([][]api.Write{{put("a", "b")}, nil}, 200),
	} {
		for _, first := range []uint64{0, 1, 127, 128, 1<<56 - 1, 1 << 56, 1<<64 - 1} {
			if got, want := Put(first, group), plainly(first, group); !bytes.Equal(got, want) {
				t.Errorf("P7.6: group %d, first %d: %d bytes, want %d", i, first, len(got), len(want))
			}
		}
	}
}

func TestPutOfAGreatGroup(t *testing.T) {
	group := slices.Repeat([][]api.Write{slices.Repeat([]api.Write{put("key", "value"), del("key")}, 8)}, 40000)
	rec := Put(5, group)
	if !bytes.Equal(rec, plainly(5, group)) {
		t.Fatalf("P7.6: %d bytes", len(rec))
	}
	if first, got, err := Get(rec); first != 5 || err != api.OK || !sameGroup(got, group) {
		t.Errorf("P7.11: %d, %d batches, %d", first, len(got), err)
	}
}

func TestPutAndGetAnswerNewMemory(t *testing.T) {
	room := [][]api.Write{{put("a", "1"), del("b"), put("z", "9")}, {put("c", "2")}, {put("y", "8")}}
	want := [][]api.Write{{put("a", "1"), del("b")}, {put("c", "2")}}
	group := [][]api.Write{room[0][:2], room[1]}
	rec := Put(7, group)
	if !sameGroup(room, [][]api.Write{{put("a", "1"), del("b"), put("z", "9")}, {put("c", "2")}, {put("y", "8")}}) {
		t.Fatal("P7.6: Put has changed what it was handed")
	}
	clear(room[0])
	_, one, _ := Get(rec)
	_, two, _ := Get(rec)
	clear(rec[:cap(rec)])
	if !sameGroup(one, want) {
		t.Fatalf("P7.7: what Get answered hangs on what it was handed: %v", one)
	}
	for i := range one {
		one[i] = append(one[i][:cap(one[i])], put("x", "x"))
		clear(one[i])
	}
	if !sameGroup(two, want) {
		t.Errorf("P7.7: two answers share memory: %v", two)
	}
	_ = append(two[0], put("x", "x"))
	clear(two[0][:cap(two[0])])
	if !sameGroup(two[1:], want[1:]) {
		t.Errorf("P7.7: two lists of an answer share memory: %v", two)
	}
}

func TestGetTellsTheFirstError(t *testing.T) {
	text := func(n int) string { return string(codec.PutText(nil, strings.Repeat("k", n))) }
	nine := strings.Repeat("\xFF", 9)
	const short, form, long = api.ErrCodecShort, api.ErrCodecForm, api.ErrCodecLong
	for i, c := range []struct {
		rec string
		err api.Errno
	}{
		// numbers
		{"", short}, {"\x80", short}, {"\x80\x00", form}, {nine, short}, {nine + "\x02", form}, {nine + "\xFF", form},
		{"\x00", short}, {"\x00\x80", short}, {"\x00\x80\x00", form}, {"\x00\x01", short}, {"\x00" + nine + "\x01", short},
		{"\x00" + nine + "\x01\x00\x00\x00", short}, {"\x00\x02\x00", short}, {"\x00\x01\x80\x00", form}, {"\x00\x01\x81", short},
		// more writes than a batch may have: ahead of them
		{"\x00\x01\x11", long}, {"\x00\x01\x11\x02", long}, {"\x00\x01\x10", short}, {"\x00\x01" + nine + "\x01", long},
		{"\x00\x02\x00\x11", long}, {"\x00\x01\x91\x00", form},
		// a write's first byte
		{"\x00\x01\x01", short}, {"\x00\x01\x01\x02", form}, {"\x00\x01\x01\xFF\x01k", form}, {"\x00\x01\x02\x01\x01k", short},
		{"\x00\x01\x02\x01\x01k\x03", form},
		// keys
		{"\x00\x01\x01\x00", short}, {"\x00\x01\x01\x00\x00", form}, {"\x00\x01\x01\x01\x00", form}, {"\x00\x01\x01\x01\x80\x00", form},
		{"\x00\x01\x01\x01\x02k", short}, {"\x00\x01\x01\x01\x41", long}, {"\x00\x01\x01\x01" + text(65), long},
		{"\x00\x01\x01\x01" + text(64), api.OK}, {"\x00\x01\x01\x01" + text(1), api.OK}, {"\x00\x01\x01\x00\x00\x80\x00", form},
		{"\x00\x01\x01\x01" + nine + "\x01", long}, {"\x00\x01\x01\x00\x01", short},
		// values
		{"\x00\x01\x01\x00\x01k", short}, {"\x00\x01\x01\x00\x01k\x80\x00", form}, {"\x00\x01\x01\x00\x01k\x02v", short},
		{"\x00\x01\x01\x00\x01k\x81\x04", long}, {"\x00\x01\x01\x00\x01k" + text(513), long}, {"\x00\x01\x01\x00\x01k\x00", api.OK},
		{"\x00\x01\x01\x00\x01k" + text(512), api.OK}, {"\x00\x01\x01\x00\x01k\x80\x04", short},
		// behind the last batch
		{"\x00\x00\x00", form}, {"\x00\x01\x00\x00", form}, {"\x00\x01\x01\x01\x01k\x00", form}, {"\x00\x00", api.OK},
		{"\x00\x01\x00", api.OK}, {nine + "\x01\x00", api.OK}, {nine + "\x01\x01\x00", api.OK},
		// a write's number: behind all of them
		{nine + "\x01\x01\x01\x01\x01k", long}, {nine + "\x01\x01\x01\x01\x01k\x00", form}, {nine + "\x01\x01\x01\x01\x00", form},
		{nine + "\x01\x01\x01\x01", short},
	} {
		first, group, err := Get([]byte(c.rec))
		if err != c.err {
			t.Errorf("P7.7: row %d, % X: %d, want %d", i, c.rec, err, c.err)
		}
		if err != api.OK && (first != 0 || len(group) != 0) {
			t.Errorf("P7.7: row %d: %d and %v beside an error", i, first, group)
		}
	}
}

func TestGetAtTheGreatestNumber(t *testing.T) {
	const top = 1<<56 - 1
	batches := func(sizes ...int) [][]api.Write {
		var group [][]api.Write
		for _, n := range sizes {
			group = append(group, slices.Repeat([]api.Write{del("k")}, n))
		}
		return group
	}
	for i, c := range []struct {
		first uint64
		group [][]api.Write
		err   api.Errno
	}{
		{top, batches(1), api.OK}, {top + 1, batches(1), api.ErrCodecLong},
		{top, batches(0, 1, 0), api.OK}, {top, batches(1, 0, 1), api.ErrCodecLong},
		{top - 15, batches(16), api.OK}, {top - 14, batches(16), api.ErrCodecLong},
		{top - 47, batches(16, 16, 16), api.OK}, {top - 46, batches(16, 16, 16), api.ErrCodecLong},
		{1<<64 - 1, batches(2), api.ErrCodecLong}, {1<<64 - 1, batches(1), api.ErrCodecLong}, {1<<64 - 16, batches(16, 16), api.ErrCodecLong},
		{1<<64 - 1, nil, api.OK}, {1<<64 - 1, batches(0, 0), api.OK}, {top + 1, batches(0), api.OK}, {0, batches(16, 16), api.OK},
	} {
		if c.err == api.OK {
			checkGet(t, fmt.Sprintf("P7.7: numbers, row %d", i), Put(c.first, c.group), c.first, c.group, api.OK)
			continue
		}
		checkGet(t, fmt.Sprintf("P7.7: numbers, row %d", i), Put(c.first, c.group), 0, nil, c.err)
	}
}

// someGroup tells a group that may be (P7.7), deletes with a Val among its writes.
func someGroup(r *rand.Rand, batches int) [][]api.Write {
	var group [][]api.Write
	for range r.Intn(batches + 1) {
		var batch []api.Write
		for range r.Intn(17) {
			w := api.Write{Key: someText(r, 1, api.MaxKey), Del: r.Intn(3) == 0, Val: someText(r, 0, api.MaxValue)}
			batch = append(batch, w)
		}
		group = append(group, batch)
	}
	return group
}

func someText(r *rand.Rand, least, most int) string {
	n := least + r.Intn(4)
	switch r.Intn(4) {
	case 0:
		n = most
	case 1:
		n = least + r.Intn(most-least+1)
	}
	b := make([]byte, n)
	r.Read(b)
	return string(b)
}

func TestGetOfWhatPutAnswers(t *testing.T) {
	r := rand.New(rand.NewSource(11))
	for range 400 {
		group := someGroup(r, 12)
		first := r.Uint64() >> (8 + r.Intn(56))
		checkGet(t, "P7.11", Put(min(first, 1<<56-1-1000), group), min(first, 1<<56-1-1000), group, api.OK)
	}
}

func TestGetTakesOneFormOnly(t *testing.T) {
	r := rand.New(rand.NewSource(12))
	taken := 0
	for range 60000 {
		rec := Put(uint64(r.Intn(300)), [][]api.Write{{put("a", "1"), del("bc")}, nil, {put("d", "")}}[:r.Intn(4)])
		for range r.Intn(4) {
			rec[r.Intn(len(rec))] = byte(r.Intn(6))
		}
		rec = append(rec, make([]byte, r.Intn(2))...)
		first, group, err := Get(rec)
		if err != api.OK {
			if first != 0 || len(group) != 0 || err < api.ErrCodecShort || err > api.ErrCodecLong {
				t.Fatalf("P7.7: % X: %d, %v, %d", rec, first, group, err)
			}
			continue
		}
		taken++
		if !bytes.Equal(plainly(first, group), rec) {
			t.Fatalf("P7.7: % X is taken as %d, %v", rec, first, group)
		}
	}
	if taken < 1000 {
		t.Errorf("only %d records were taken", taken)
	}
}

func TestAGroupsBytesAreWithinItsWeight(t *testing.T) {
	within := func(first uint64, group [][]api.Write) {
		t.Helper()
		weight := 64
		for _, batch := range group {
			if ikey.CheckBatch(batch) != api.OK {
				t.Fatalf("a batch that isn't right: %v", batch)
			}
			weight += ikey.BatchWeight(batch)
		}
		rec := Put(first, group)
		for at := range api.LogBlock {
			if n := len(Append(at, rec)); n > weight {
				t.Fatalf("P7.10: %d bytes at %d, weight and 64: %d", n, at, weight)
			}
		}
	}
	great := put(strings.Repeat("k", api.MaxKey), strings.Repeat("v", api.MaxValue))
	for _, w := range []api.Write{put("k", ""), del("k"), great, del(great.Key)} {
		for _, n := range []int{0, 1, 2, 16} {
			for _, batches := range []int{0, 1, 7, 8} {
				within(1<<64-1, slices.Repeat([][]api.Write{slices.Repeat([]api.Write{w}, n)}, batches))
			}
		}
	}
	r := rand.New(rand.NewSource(13))
	for range 20 {
		within(r.Uint64(), someGroup(r, api.MaxClients))
	}
}
