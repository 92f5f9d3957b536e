package table

import (
	"bytes"
	"encoding/hex"
	"fmt"
	"math"
	"math/rand"
	"slices"
	"strings"
	"testing"

	"scree/api"
)

// laid: all that a maker answers, up to its end, one behind the other.
func laid(t *testing.T, m *Maker, l []api.Entry) []byte {
	t.Helper()
	var b []byte
	for _, e := range l {
		more, err := m.Add(e)
		if err != api.OK {
			t.Fatalf("P10.2: Add of %q, %d: %d", e.Key, e.Seq, err)
		}
		b = append(b, more...)
	}
	more, err := m.End()
	if err != api.OK {
		t.Fatalf("P10.3: End: %d", err)
	}
	return append(b, more...)
}

// config: of which the three fields that count are set.
func config(blockBytes, restart, bits int) api.Config {
	return api.Config{BlockBytes: blockBytes, Restart: restart, BloomBits: bits}
}

func TestExampleBytes(t *testing.T) {
	m := NewMaker(config(64, 2, 10))
	if b, err := m.Add(api.Entry{Key: "a", Seq: 1, Val: "x"}); len(b) > 0 || err != api.OK {
		t.Fatalf("P10.2: % X, %d", b, err)
	}
	got, err := m.End()
	if err != api.OK {
		t.Fatalf("P10.3: %d", err)
	}
	unhex := func(s string) []byte {
		b, _ := hex.DecodeString(strings.ReplaceAll(s, " ", ""))
		return b
	}
	want := modelSum(unhex("00 01 02 61 01 78 00 00 00 00 01 00 00 00"))
	want = append(want, modelSum(unhex("00 01 00 61 02 00 12 00 00 00 00 01 00 00 00"))...)
	want = append(want, unhex("01 00 01 01 00 01 01 01 06")...)
	want = append(want, unhex("12 13 09 01 C3 03 01 61 01 61 0A 73 63 72 31")...)
	want = modelSum(want)
	if !bytes.Equal(got, want) {
		t.Errorf("P10.1: % X, want % X", got, want)
	}
	if x := m.Meta(); x != (api.Table{Weight: 451, Bytes: 65, Entries: 1, Least: "a", Greatest: "a"}) {
		t.Errorf("P10.4: %v", x)
	}
}

func TestMakerAgainstModel(t *testing.T) {
	r := rand.New(rand.NewSource(1))
	sizes := []int{math.MinInt, -1, 0, 1, 8, 9, 17, 18, 64, 200, 1000, 4096, 1 << 20, math.MaxInt}
	restarts := []int{math.MinInt, -1, 0, 1, 2, 3, 16, math.MaxInt}
	bits := []int{math.MinInt, -1, 0, 1, 10, 16, 17, math.MaxInt}
	for i := range 300 {
		c := config(sizes[r.Intn(len(sizes))], restarts[r.Intn(len(restarts))], bits[r.Intn(len(bits))])
		l := someEntries(r, 1+r.Intn(40))
		answers, last := modelMade(c, l)
		m := NewMaker(c)
		size := 0
		for n, e := range l {
			b, err := m.Add(e)
			if err != api.OK || !bytes.Equal(b, answers[n]) {
				t.Fatalf("P10.2: round %d, %v: Add number %d: % X, %d, want % X", i, c, n, b, err, answers[n])
			}
			size += len(b)
			checkMeta(t, m, metaOf(l[:n+1], size))
		}
		b, err := m.End()
		if err != api.OK || !bytes.Equal(b, last) {
			t.Fatalf("P10.3: round %d, %v: End: % X, %d, want % X", i, c, b, err, last)
		}
		checkMeta(t, m, metaOf(l, size+len(b)))
	}
}

func checkMeta(t *testing.T, m *Maker, want api.Table) {
	t.Helper()
	if got := m.Meta(); got != want || m.Weight() != want.Weight {
		t.Fatalf("P10.4: Meta %v, Weight %d, want %v", got, m.Weight(), want)
	}
}

func TestOtherFieldsDoNotCount(t *testing.T) {
	l := someEntries(rand.New(rand.NewSource(2)), 30)
	c := config(100, 3, 7)
	want := laid(t, NewMaker(c), l)
	c.Clients, c.Levels, c.FileBytes, c.MaxChunk, c.MemBytes, c.MaxManifest = -1, 9, 1, math.MaxInt, math.MinInt, 3
	if !bytes.Equal(laid(t, NewMaker(c), l), want) {
		t.Errorf("P10.2: another field of the configuration counts")
	}
}

func TestBlockEndsAtItsSize(t *testing.T) {
	// A block of a with one byte has 18 bytes.
	for size, want := range map[int]int{17: 18, 18: 18, 19: 0} {
		m := NewMaker(config(size, 1, 0))
		if b, err := m.Add(api.Entry{Key: "a", Seq: 1, Val: "x"}); len(b) != want || err != api.OK {
			t.Errorf("P10.2: BlockBytes %d: %d bytes, %d, want %d", size, len(b), err, want)
		}
	}
}

// wrongAdds: what can't be laid down behind b.
func wrongAdds() []struct {
	what string
	e    api.Entry
	want api.Errno
} {
	long, big := strings.Repeat("k", 65), strings.Repeat("v", 513)
	return []struct {
		what string
		e    api.Entry
		want api.Errno
	}{
		{"a key of no bytes", api.Entry{}, api.ErrKeyEmpty},
		{"a key of no bytes, all else wrong too", api.Entry{Seq: 1 << 56, Val: big}, api.ErrKeyEmpty},
		{"a key of no bytes, deleted, with a value", api.Entry{Del: true, Val: "x"}, api.ErrKeyEmpty},
		{"a key of 65 bytes", api.Entry{Key: long}, api.ErrKeyLong},
		{"a key of 65 bytes that doesn't rise", api.Entry{Key: strings.Repeat("a", 65), Seq: 1 << 56, Val: big}, api.ErrKeyLong},
		{"a value of 513 bytes", api.Entry{Key: "c", Val: big}, api.ErrValueLong},
		{"a value of 513 bytes, a number too great", api.Entry{Key: "c", Seq: 1 << 56, Val: big}, api.ErrValueLong},
		{"a value of 513 bytes, a key that doesn't rise", api.Entry{Key: "a", Val: big}, api.ErrValueLong},
		{"deleted, with a value", api.Entry{Key: "c", Del: true, Val: "x"}, api.ErrBlockForm},
		{"deleted, with a value of 513 bytes", api.Entry{Key: "c", Del: true, Val: big}, api.ErrBlockForm},
		{"deleted, with a value, a key that doesn't rise", api.Entry{Key: "b", Del: true, Val: "x"}, api.ErrBlockForm},
		{"a number of 2^56", api.Entry{Key: "c", Seq: 1 << 56}, api.ErrBlockForm},
		{"a number of 2^64 - 1, a key that doesn't rise", api.Entry{Key: "a", Seq: math.MaxUint64}, api.ErrBlockForm},
		{"the key again", api.Entry{Key: "b", Seq: 9}, api.ErrTableOrder},
		{"the key again, deleted", api.Entry{Key: "b", Del: true}, api.ErrTableOrder},
		{"a key below", api.Entry{Key: "a", Seq: 9}, api.ErrTableOrder},
		{"a longer key below", api.Entry{Key: "azz"}, api.ErrTableOrder},
	}
}

func TestAddRefuses(t *testing.T) {
	for _, size := range []int{1, 19, 1 << 20} { // b's block has ended; the next one would; none ever does
		for _, c := range wrongAdds() {
			m := NewMaker(config(size, 2, 10))
			b, err := m.Add(api.Entry{Key: "b", Seq: 3})
			if err != api.OK {
				t.Fatalf("P10.2: %d", err)
			}
			was := m.Meta()
			if more, err := m.Add(c.e); err != c.want || len(more) > 0 {
				t.Errorf("P10.2: BlockBytes %d: %s: % X, %d, want %d", size, c.what, more, err, c.want)
			}
			checkMeta(t, m, was)
			// What was refused is no entry: neither a block, nor the filter, nor the foot hangs on it.
			l := []api.Entry{{Key: "b\x00", Seq: 1}, {Key: "c", Seq: 2, Val: "y"}}
			b = append(b, laid(t, m, l)...)
			answers, last := modelMade(config(size, 2, 10), append([]api.Entry{{Key: "b", Seq: 3}}, l...))
			if !bytes.Equal(b, append(slices.Concat(answers...), last...)) {
				t.Errorf("P10.2: BlockBytes %d: behind %s: % X", size, c.what, b)
			}
		}
	}
}

func TestEmptyMaker(t *testing.T) {
	m := NewMaker(config(64, 2, 10))
	checkMeta(t, m, api.Table{})
	for range 2 {
		if b, err := m.End(); len(b) > 0 || err != api.ErrTableEmpty {
			t.Errorf("P10.3: End of an empty maker: % X, %d", b, err)
		}
	}
	for _, c := range wrongAdds() {
		if c.want == api.ErrTableOrder {
			continue
		}
		if b, err := m.Add(c.e); len(b) > 0 || err != c.want {
			t.Errorf("P10.2: %s, of an empty maker: % X, %d, want %d", c.what, b, err, c.want)
		}
		if b, err := m.End(); len(b) > 0 || err != api.ErrTableEmpty {
			t.Errorf("P10.3: End behind %s: % X, %d", c.what, b, err)
		}
		checkMeta(t, m, api.Table{})
	}
	l := []api.Entry{{Key: "\x00", Val: "x"}}
	_, want := modelMade(config(64, 2, 10), l)
	if b := laid(t, m, l); !bytes.Equal(b, want) {
		t.Errorf("P10.3: behind a refused End: % X, want % X", b, want)
	}
}

func TestEndedMaker(t *testing.T) {
	for _, size := range []int{1, 1 << 20} {
		m := NewMaker(config(size, 1, 0))
		b := laid(t, m, []api.Entry{{Key: "b"}})
		for range 2 {
			// The end comes ahead of every other error.
			for _, e := range []api.Entry{{Key: "c"}, {Key: "a"}, {}, {Key: "c", Del: true, Val: "x"}} {
				if more, err := m.Add(e); len(more) > 0 || err != api.ErrTableForm {
					t.Errorf("P10.2: Add of %q behind the end: % X, %d", e.Key, more, err)
				}
			}
			if more, err := m.End(); len(more) > 0 || err != api.ErrTableForm {
				t.Errorf("P10.3: End behind the end: % X, %d", more, err)
			}
			checkMeta(t, m, metaOf([]api.Entry{{Key: "b"}}, len(b)))
		}
	}
}

func TestMakersDoNotTouch(t *testing.T) {
	r := rand.New(rand.NewSource(3))
	l, other := someEntries(r, 20), someEntries(r, 20)
	c, d := config(60, 2, 10), config(90, 3, 5)
	wantC, wantD := laid(t, NewMaker(c), l), laid(t, NewMaker(d), other)
	m, n := NewMaker(c), NewMaker(d)
	var b, x []byte
	for i := range l {
		more, _ := m.Add(l[i])
		b = append(b, more...)
		more, _ = n.Add(other[i])
		x = append(x, more...)
		m.Weight()
		n.Meta()
	}
	more, _ := m.End()
	b = append(b, more...)
	more, _ = n.End()
	x = append(x, more...)
	if !bytes.Equal(b, wantC) || !bytes.Equal(x, wantD) {
		t.Errorf("P10.2: two makers touch one another")
	}
}

func TestAnswersAreNewMemory(t *testing.T) {
	l := someEntries(rand.New(rand.NewSource(4)), 30)
	c := config(60, 2, 10)
	answers, last := modelMade(c, l)
	m := NewMaker(c)
	var kept [][]byte
	for _, e := range l {
		b, _ := m.Add(e)
		kept = append(kept, slices.Clone(b))
		for i := range b[:cap(b)] {
			b[:cap(b)][i] ^= 0xFF
		}
	}
	b, _ := m.End()
	if !bytes.Equal(slices.Concat(kept...), slices.Concat(answers...)) || !bytes.Equal(b, last) {
		t.Errorf("P10.2: what is done with an answer touches a later one: % X", b)
	}
}

// TestRoundTrip: P10.7, with numbers in the index and in the foot that take one byte and more.
func TestRoundTrip(t *testing.T) {
	r := rand.New(rand.NewSource(5))
	for i := range 60 {
		l := someEntries(r, 1+r.Intn(20))
		if i%10 == 0 {
			l = someEntries(r, 300)
		}
		for _, c := range []api.Config{config(1, 1, 0), config(200, 3, 10), config(1<<20, 16, 16), config(0, 0, -1)} {
			m := NewMaker(c)
			b := laid(t, m, l)
			x := opened(t, b)
			if got := slices.Collect(x.From("")); !slices.Equal(got, l) {
				t.Fatalf("P10.7: round %d: %v: other entries", i, c)
			}
			if x.Meta() != m.Meta() || m.Meta() != metaOf(l, len(b)) {
				t.Fatalf("P10.7: round %d: %v: %v of the maker, %v of the table", i, c, m.Meta(), x.Meta())
			}
		}
	}
}

// heavyBytes: n entries that take as many bytes for their weight as any.
func heavyBytes(n, keyBytes int, del bool) []api.Entry {
	var l []api.Entry
	for i := range n {
		// Keys whose first bytes are unlike share the least.
		key := fmt.Sprintf("%05d", i)
		key = (key + strings.Repeat("k", 64))[:max(keyBytes, len(fmt.Sprint(n)))]
		e := api.Entry{Key: key, Seq: 1<<56 - 1, Del: del}
		if !del {
			e.Val = strings.Repeat("v", 512)
		}
		l = append(l, e)
	}
	return l
}

func TestBytesLieWithinWeight(t *testing.T) {
	for _, n := range []int{1, 2, 3, 9, 100, 3000} {
		for _, keyBytes := range []int{5, 64} {
			for _, del := range []bool{false, true} {
				for _, c := range []api.Config{config(1, 1, 16), config(math.MinInt, -1, math.MaxInt), config(64, 1, 1), config(4096, 16, 10), config(math.MaxInt, 1, 0)} {
					m := NewMaker(c)
					b := laid(t, m, heavyBytes(n, keyBytes, del))
					if x := m.Meta(); x.Bytes != len(b) || x.Bytes+len(x.Least)+len(x.Greatest)+40 > x.Weight {
						t.Errorf("P10.9: %d entries, %v: %d bytes weigh %d", n, c, x.Bytes, x.Weight)
					}
				}
			}
		}
	}
	m := NewMaker(config(1, 1, 16))
	laid(t, m, []api.Entry{{Key: "a", Seq: 1<<56 - 1, Del: true}})
	if x := m.Meta(); x.Bytes+1+1+40 > x.Weight {
		t.Errorf("P10.9: the lightest entry: %v", x)
	}
}
