package table

import (
	"bytes"
	"math"
	"math/rand"
	"slices"
	"strings"
	"testing"

	"scree/api"
	"scree/bloom"
)

func TestOpenOfFewBytes(t *testing.T) {
	for n := range 9 {
		refused(t, "fewer than nine bytes", make([]byte, n))
		if n >= 4 {
			refused(t, "fewer than nine bytes with a right sum", modelSum(make([]byte, n-4)))
		}
	}
	refused(t, "nothing", nil)
	for n := 9; n < 200; n++ {
		if x, err := Open(make([]byte, n)); x != nil || err != api.ErrTableSum {
			t.Errorf("P10.5: %d bytes 00: %d", n, err)
		}
		refused(t, "bytes 00 with a right sum", modelSum(make([]byte, n-4)))
		refused(t, "bytes FF with a right sum", modelSum(bytes.Repeat([]byte{255}, n-4)))
	}
	refused(t, "a foot of no bytes", modelSum([]byte("\x00scr1")))
	refused(t, "a foot longer than the file", modelSum([]byte("\xFFscr1")))
	refused(t, "a foot longer than the file by one", modelSum([]byte("\x00\x02scr1")))
}

// three: a table of three blocks, to be bent.
func three() pieces {
	l := []api.Entry{{Key: "a", Seq: 1, Val: "x"}, {Key: "ab", Seq: 2, Del: true}, {Key: "b", Seq: 3}, {Key: "c", Seq: 4, Val: "yy"}, {Key: "ca", Seq: 5}}
	return piecesOf([][]api.Entry{l[:2], l[2:3], l[3:]}, []int{1, 2, 3}, 2, bloom.Make(keysOf(l), 10))
}

// index: the index of three blocks, with the keys of three().
func index(vals ...string) []byte {
	var l []api.Entry
	for i, val := range vals {
		l = append(l, api.Entry{Key: []string{"ab", "b", "ca", "d"}[i], Val: val})
	}
	return blockOf(2, l)
}

// withIndex lays another index down, and says in the foot how long it is.
func (p *pieces) withIndex(b []byte) {
	p.index = b
	p.numbers[1] = uint64(len(b))
}

// withFilter lays another filter down, and says in the foot how long it is.
func (p *pieces) withFilter(b []byte) {
	p.filter = b
	p.numbers[2] = uint64(len(b))
}

func TestOpenRefusesFeet(t *testing.T) {
	opened(t, three().bytes())
	for what, bend := range map[string]func(p *pieces){
		"an index place too small":             func(p *pieces) { p.numbers[0]-- },
		"an index place too great":             func(p *pieces) { p.numbers[0]++ },
		"an index place beyond the file":       func(p *pieces) { p.numbers[0] = 1 << 40 },
		"an index place of 2^64 - 1":           func(p *pieces) { p.numbers[0] = math.MaxUint64 },
		"an index too short":                   func(p *pieces) { p.numbers[1]-- },
		"an index too long":                    func(p *pieces) { p.numbers[1]++ },
		"an index of 2^64 - 1 bytes":           func(p *pieces) { p.numbers[1] = math.MaxUint64 },
		"an index that takes of the filter":    func(p *pieces) { p.numbers[1]++; p.numbers[2]-- },
		"a place and a length that wrap":       func(p *pieces) { p.numbers[1] += 1 << 63; p.numbers[0] += 1 << 63 },
		"a filter too short":                   func(p *pieces) { p.numbers[2]-- },
		"a filter too long":                    func(p *pieces) { p.numbers[2]++ },
		"a filter of no bytes":                 func(p *pieces) { p.numbers[2] = 0 },
		"a filter of 2^64 - 1 bytes":           func(p *pieces) { p.numbers[2] = math.MaxUint64 },
		"an entry too few":                     func(p *pieces) { p.numbers[3]-- },
		"an entry too many":                    func(p *pieces) { p.numbers[3]++ },
		"entries that are 2^32 too many":       func(p *pieces) { p.numbers[3] += 1 << 32 },
		"entries that are 2^63 too many":       func(p *pieces) { p.numbers[3] += 1 << 63 },
		"a weight too small":                   func(p *pieces) { p.numbers[4]-- },
		"a weight too great":                   func(p *pieces) { p.numbers[4]++ },
		"a weight of 0":                        func(p *pieces) { p.numbers[4] = 0 },
		"a least key below":                    func(p *pieces) { p.texts[0] = "A" },
		"a least key above":                    func(p *pieces) { p.texts[0] = "aa" },
		"no least key":                         func(p *pieces) { p.texts[0] = "" },
		"a greatest key below":                 func(p *pieces) { p.texts[1] = "c" },
		"a greatest key above":                 func(p *pieces) { p.texts[1] = "cb" },
		"a greatest key of 65 bytes":           func(p *pieces) { p.texts[1] = strings.Repeat("k", 65) },
		"keys the other way round":             func(p *pieces) { p.texts[0], p.texts[1] = p.texts[1], p.texts[0] },
		"a foot said to be longer":             func(p *pieces) { p.more = 1 },
		"a foot said to be shorter":            func(p *pieces) { p.more = -1 },
		"a foot said to be of no bytes":        func(p *pieces) { p.more = -int(three().bytes()[len(three().bytes())-9]) },
		"a foot said to be of 255 bytes":       func(p *pieces) { p.more = 255 - int(three().bytes()[len(three().bytes())-9]) },
		"another mark":                         func(p *pieces) { p.mark = "scr2" },
		"a mark in capitals":                   func(p *pieces) { p.mark = "SCR1" },
		"a mark the other way round":           func(p *pieces) { p.mark = "1rcs" },
		"no mark":                              func(p *pieces) { p.mark = "" },
		"a byte between filter and foot":       func(p *pieces) { p.behind = "\x00" },
		"a byte behind the mark":               func(p *pieces) { p.mark = "scr1\x00" },
		"a whole foot between filter and foot": func(p *pieces) { p.behind = uints(1, 2, 3) },
	} {
		p := three()
		bend(&p)
		refused(t, what, p.bytes())
	}
}

// TestOpenRefusesLongNumbers: the foot's numbers in another than their one form.
func TestOpenRefusesLongNumbers(t *testing.T) {
	b := three().bytes()
	end := len(b) - 9
	start := end - int(b[end])
	for at := start; at < end; at++ {
		if b[at] >= 0x80 {
			continue
		}
		// The number that ends here gets a group that isn't needed.
		x := slices.Concat(b[:at], []byte{b[at] | 0x80, 0}, b[at+1:end], []byte{b[end] + 1}, []byte("scr1"))
		refused(t, "a number that isn't in its one form", modelSum(x))
	}
}

func TestOpenRefusesIndexes(t *testing.T) {
	p := three()
	n := make([]uint64, len(p.blocks))
	for i, b := range p.blocks {
		n[i] = uint64(len(b))
	}
	first, second, third := uints(0, n[0]), uints(n[0], n[1]), uints(n[0]+n[1], n[2])
	if !bytes.Equal(index(first, second, third), p.index) {
		t.Fatalf("the index of three blocks is another one")
	}
	entry := func(i int, e api.Entry) []byte {
		l := []api.Entry{{Key: "ab", Val: first}, {Key: "b", Val: second}, {Key: "ca", Val: third}}
		l[i] = e
		return blockOf(2, l)
	}
	for what, b := range map[string][]byte{
		"no bytes":                           nil,
		"no entries":                         index(),
		"a block too few":                    index(first, second),
		"the first block too few":            blockOf(2, []api.Entry{{Key: "b", Val: second}, {Key: "ca", Val: third}}),
		"a block too many":                   index(first, second, third, uints(n[0]+n[1]+n[2], 0)),
		"a block too many, of the index":     index(first, second, third, uints(n[0]+n[1]+n[2], 8)),
		"a last block twice":                 index(first, second, third, third),
		"blocks the other way round":         index(second, first, third),
		"a first place that isn't 0":         index(uints(1, n[0]), second, third),
		"a place too small":                  index(first, uints(n[0]-1, n[1]), third),
		"a place too great":                  index(first, uints(n[0]+1, n[1]), third),
		"a place of 2^64 - 1":                index(first, uints(math.MaxUint64, n[1]), third),
		"a place that is 2^32 too great":     index(first, uints(n[0]+1<<32, n[1]), third),
		"a size too small":                   index(first, uints(n[0], n[1]-1), third),
		"a size too great":                   index(first, uints(n[0], n[1]+1), third),
		"a size of 0":                        index(first, uints(n[0], 0), third),
		"a size beyond the blocks":           index(first, second, uints(n[0]+n[1], n[2]+1)),
		"a size of 2^64 - 1":                 index(first, second, uints(n[0]+n[1], math.MaxUint64)),
		"two blocks as one":                  index(uints(0, n[0]+n[1]), third),
		"no value":                           index(first, "", third),
		"one number":                         index(first, uints(n[0]), third),
		"three numbers":                      index(first, second+uints(0), third),
		"a number not in its one form":       index("\x80\x00"+uints(n[0]), second, third),
		"a last number not in its one form":  index(uints(0)+string([]byte{byte(n[0]) | 0x80, 0}), second, third),
		"a key below the greatest":           entry(0, api.Entry{Key: "aa", Val: first}),
		"a key above the greatest":           entry(0, api.Entry{Key: "ac", Val: first}),
		"a last key above the greatest":      entry(2, api.Entry{Key: "cb", Val: third}),
		"the number of its entry":            entry(1, api.Entry{Key: "b", Seq: 3, Val: second}),
		"a number of 1":                      entry(2, api.Entry{Key: "ca", Seq: 1, Val: third}),
		"a deleted entry":                    entry(1, api.Entry{Key: "b", Del: true}),
		"a wrong sum within":                 append(p.index[:len(p.index)-1:len(p.index)-1], p.index[len(p.index)-1]^1),
		"a byte behind it":                   append(slices.Clone(p.index), 0),
		"a byte ahead of it":                 append([]byte{0}, p.index...),
		"entries that take the place of one": blockOf(2, []api.Entry{{Key: "a", Val: first}, {Key: "ab", Val: first}, {Key: "b", Val: second}, {Key: "ca", Val: third}}),
	} {
		x := three()
		x.withIndex(b)
		refused(t, "an index with "+what, x.bytes())
	}
	for restart := 1; restart < 6; restart++ {
		x := three()
		x.withIndex(blockOf(restart, []api.Entry{{Key: "ab", Val: first}, {Key: "b", Val: second}, {Key: "ca", Val: third}}))
		opened(t, x.bytes())
	}
}

// bent: a table of these blocks, whose index and foot say what they would if the blocks were right.
func bent(blocks [][]byte, greatest []string, entries, weight int) []byte {
	p := pieces{blocks: blocks, mark: "scr1"}
	var index []api.Entry
	at := 0
	for i, b := range blocks {
		index = append(index, api.Entry{Key: greatest[i], Val: uints(uint64(at), uint64(len(b)))})
		at += len(b)
	}
	p.index = blockOf(1, index)
	p.numbers = [5]uint64{uint64(at), uint64(len(p.index)), 0, uint64(entries), uint64(weight)}
	p.texts = [2]string{"a", greatest[len(greatest)-1]}
	return p.bytes()
}

func TestOpenRefusesBlocks(t *testing.T) {
	one := func(keys ...string) []byte {
		var l []api.Entry
		for _, key := range keys {
			l = append(l, api.Entry{Key: key})
		}
		return blockOf(1, l)
	}
	opened(t, bent([][]byte{one("a"), one("b")}, []string{"a", "b"}, 2, 900))
	none := one()
	wrong := one("a")
	wrong[len(wrong)-1] ^= 1
	refused(t, "a key again in the next block", bent([][]byte{one("a", "b"), one("b", "c")}, []string{"b", "c"}, 4, 1800))
	refused(t, "a key that falls in the next block", bent([][]byte{one("a", "c"), one("b", "d")}, []string{"c", "d"}, 4, 1800))
	refused(t, "a first block without entries", bent([][]byte{none, one("a")}, []string{"A", "a"}, 1, 450))
	refused(t, "a last block without entries", bent([][]byte{one("a"), none}, []string{"a", "b"}, 1, 450))
	refused(t, "a block without entries between", bent([][]byte{one("a"), none, one("b")}, []string{"a", "aa", "b"}, 2, 900))
	refused(t, "a block with a wrong sum", bent([][]byte{wrong}, []string{"a"}, 1, 450))
	refused(t, "a block with a byte behind it", bent([][]byte{append(one("a"), 0)}, []string{"a"}, 1, 450))
	refused(t, "bytes that are no block", bent([][]byte{[]byte("no block at all")}, []string{"a"}, 1, 450))
	refused(t, "two blocks that the index says are one", bent([][]byte{append(one("a"), one("b")...)}, []string{"b"}, 2, 900))

	nothing := pieces{index: blockOf(1, nil), mark: "scr1"}
	nothing.numbers[1] = 8
	refused(t, "a table without an entry", nothing.bytes())
	nothing.blocks = [][]byte{none}
	nothing.numbers[0] = 8
	refused(t, "a table without an entry, with a block that no index tells of", nothing.bytes())
	ahead := three()
	ahead.blocks = append([][]byte{[]byte("z")}, ahead.blocks...)
	ahead.numbers[0]++
	refused(t, "a byte ahead of the blocks", ahead.bytes())
	behind := three()
	behind.blocks = append(behind.blocks, []byte("z"))
	behind.numbers[0]++
	refused(t, "a byte behind the blocks", behind.bytes())
}

func TestFilters(t *testing.T) {
	keys := []string{"a", "ab", "b", "c", "ca"}
	told := map[string]int{}
	for bit := range 800 {
		// All places but one are 1: it says no of the keys that have a probe there.
		p := three()
		p.withFilter(append(bytes.Repeat([]byte{255}, 100), 3))
		p.filter[bit/8] ^= 1 << (bit % 8)
		no := slices.DeleteFunc(slices.Clone(keys), func(key string) bool { return bloom.May(p.filter, key) })
		for _, key := range no {
			refused(t, "a filter that says no of "+key, p.bytes())
			told[key] += len(no)
		}
		if len(no) == 0 {
			opened(t, p.bytes())
		}
	}
	if len(told) != len(keys) {
		t.Errorf("filters said no of %v alone", told)
	}
	p := three()
	p.withFilter([]byte("\x00\x00\x00\x00\x00\x00\x00\x00\x01"))
	refused(t, "a filter that says no of every key", p.bytes())
	for _, filter := range [][]byte{nil, {1}, []byte("any text"), make([]byte, 9), make([]byte, 1000), bytes.Repeat([]byte{255}, 77), bloom.Make(keys, 1), bloom.Make(append(keys, "z"), 16)} {
		p := three()
		p.withFilter(filter)
		b := p.bytes()
		x := opened(t, b)
		for _, key := range keys {
			if e, ok := x.Get(key); !ok || e.Key != key {
				t.Errorf("P10.6: with the filter % X: Get(%q): %v, %v", filter, key, e, ok)
			}
		}
		for _, key := range []string{"", "aa", "z", "cab"} {
			if e, ok := x.Get(key); ok || e != (api.Entry{}) {
				t.Errorf("P10.6: with the filter % X: Get(%q): %v, %v", filter, key, e, ok)
			}
		}
		if x.Meta().Bytes != len(b) {
			t.Errorf("P10.6: with the filter % X: %d bytes", filter, x.Meta().Bytes)
		}
	}
}

// checkReads holds Get and From against the entries that a table has.
func checkReads(t *testing.T, x *Table, l []api.Entry) {
	t.Helper()
	keys := []string{"", "\x00", "a", "\xFF", strings.Repeat("\xFF", 64), strings.Repeat("\xFF", 65), strings.Repeat("\xFF", 1000)}
	for _, e := range l {
		keys = append(keys, e.Key, e.Key+"\x00", e.Key+"\xFF", e.Key[:len(e.Key)-1], e.Key[:len(e.Key)/2], e.Key+strings.Repeat("q", 70))
	}
	for _, key := range keys {
		at := len(l)
		for i := range l {
			if l[i].Key >= key {
				at = i
				break
			}
		}
		var want api.Entry
		there := at < len(l) && l[at].Key == key
		if there {
			want = l[at]
		}
		if e, ok := x.Get(key); e != want || ok != there {
			t.Fatalf("P10.6: Get(%q): %v, %v, want %v, %v", key, e, ok, want, there)
		}
		if got := slices.Collect(x.From(key)); !slices.Equal(got, l[at:]) {
			t.Fatalf("P10.6: From(%q): %d entries, want %d", key, len(got), len(l)-at)
		}
	}
}

// TestReadAnyForm: blocks, restarts and filters as no maker chooses them.
func TestReadAnyForm(t *testing.T) {
	r := rand.New(rand.NewSource(6))
	for i := range 150 {
		l := someEntries(r, 1+r.Intn(40))
		b := someTable(r, l).bytes()
		if model, err := modelOpen(b); err != api.OK || !slices.Equal(model, l) {
			t.Fatalf("round %d: the model refuses a right table: %d", i, err)
		}
		x := opened(t, b)
		checkReads(t, x, l)
		if x.Meta() != metaOf(l, len(b)) {
			t.Fatalf("P10.6: round %d: Meta %v, want %v", i, x.Meta(), metaOf(l, len(b)))
		}
	}
}

// bendAny changes something of a table's pieces.
func bendAny(r *rand.Rand, p *pieces) {
	some := func() uint64 { return []uint64{1, math.MaxUint64, 8, 1 << 32, 1 << 63, uint64(r.Intn(50))}[r.Intn(6)] }
	switch r.Intn(9) {
	case 0, 1:
		p.numbers[r.Intn(5)] += some()
	case 2:
		i := r.Intn(2)
		p.texts[i] = p.texts[i][:r.Intn(len(p.texts[i])+1)]
	case 3:
		i, j := r.Intn(len(p.blocks)), r.Intn(len(p.blocks))
		p.blocks[i], p.blocks[j] = p.blocks[j], p.blocks[i]
	case 4:
		bendBlock(r, p.blocks[r.Intn(len(p.blocks))])
	case 5:
		bendBlock(r, p.index)
	case 6:
		if len(p.filter) > 0 {
			p.filter[r.Intn(len(p.filter))] ^= 1 << r.Intn(8)
		}
	case 7:
		p.filter = append(p.filter, byte(r.Intn(14)))
		p.numbers[2] += uint64(r.Intn(2))
	case 8:
		p.more = r.Intn(5) - 2
	}
}

// bendBlock changes a byte of a block, ahead of its sum, and makes the sum right again.
func bendBlock(r *rand.Rand, b []byte) {
	b[r.Intn(len(b)-4)] ^= 1 << r.Intn(8)
	copy(b, modelSum(b[:len(b)-4]))
}

func TestOpenAgainstModel(t *testing.T) {
	r := rand.New(rand.NewSource(7))
	taken, given := 0, 0
	for i := range 4000 {
		p := someTable(r, someEntries(r, 1+r.Intn(12)))
		p.filter = slices.Clone(p.filter)
		for range 1 + r.Intn(2) {
			bendAny(r, &p)
		}
		b := p.bytes()
		want, wantErr := modelOpen(b)
		x, err := Open(b)
		if err != wantErr || (x != nil) != (err == api.OK) {
			t.Fatalf("P10.5: round %d: %d, want %d, of % X", i, err, wantErr, b)
		}
		if x == nil {
			given++
			continue
		}
		taken++
		if got := slices.Collect(x.From("")); !slices.Equal(got, want) || x.Meta() != metaOf(want, len(b)) {
			t.Fatalf("P10.6: round %d: %v, want %v", i, got, want)
		}
	}
	if taken < 100 || given < 100 {
		t.Errorf("%d bent tables were taken, %d refused: too few of one kind", taken, given)
	}
}

// TestOpenOfBentBytes: any byte is another one, anything is left out or doubled, and the sum is right.
func TestOpenOfBentBytes(t *testing.T) {
	r := rand.New(rand.NewSource(8))
	for i := range 20000 {
		b := someTable(r, someEntries(r, 1+r.Intn(4))).bytes()
		b = b[:len(b)-4]
		at := r.Intn(len(b))
		switch r.Intn(4) {
		case 0:
			b[at] = byte(r.Intn(256))
		case 1:
			b = b[:at]
		case 2:
			b = slices.Concat(b[:at], b[min(len(b), at+1+r.Intn(9)):])
		case 3:
			b = slices.Concat(b[:at], b[at/2:])
		}
		b = modelSum(b)
		want, wantErr := modelOpen(b)
		x, err := Open(b)
		if err != wantErr || (x != nil) != (err == api.OK) {
			t.Fatalf("P10.5: round %d: %d, want %d, of % X", i, err, wantErr, b)
		}
		if x != nil && !slices.Equal(slices.Collect(x.From("")), want) {
			t.Fatalf("P10.6: round %d: other entries, of % X", i, b)
		}
	}
}

func TestTurnedBits(t *testing.T) {
	r := rand.New(rand.NewSource(9))
	for range 15 {
		b := someTable(r, someEntries(r, 1+r.Intn(6))).bytes()
		for at := range 8 * len(b) {
			// The bit itself, and any others of the 31 behind it.
			for _, more := range []uint32{0, r.Uint32(), math.MaxUint32} {
				x := slices.Clone(b)
				for i := range min(32, 8*len(b)-at) {
					if i == 0 || more>>i&1 == 1 {
						x[(at+i)/8] ^= 1 << ((at + i) % 8)
					}
				}
				if y, err := Open(x); y != nil || err != api.ErrTableSum {
					t.Fatalf("P10.8: turned bits from %d on: %d", at, err)
				}
			}
		}
	}
}

func TestFirstParts(t *testing.T) {
	b := three().bytes()
	for n := range b {
		// A data block ends with a sum of its own: there the sum is right, and the form isn't.
		_, want := modelOpen(b[:n])
		if x, err := Open(b[:n]); x != nil || err != want || err == api.OK {
			t.Errorf("P10.5: the first %d bytes: %d, want %d", n, err, want)
		}
	}
	if x, err := Open(three().blocks[0]); x != nil || err != api.ErrTableForm {
		t.Errorf("P10.5: a data block alone: %d", err)
	}
}

func TestFromMayBeLeft(t *testing.T) {
	l := someEntries(rand.New(rand.NewSource(10)), 30)
	for _, size := range []int{1, 100, 1 << 20} {
		x := opened(t, laid(t, NewMaker(config(size, 3, 10)), l))
		all := x.From(l[4].Key)
		for n := range l[4:] {
			seen := 0
			for e := range all {
				if e != l[4+seen] {
					t.Fatalf("P10.6: BlockBytes %d: entry %d: %v", size, seen, e)
				}
				if seen == n {
					break
				}
				seen++
			}
		}
		pairs := 0
		for range all {
			for range all {
				pairs++
			}
		}
		if pairs != 26*26 {
			t.Errorf("P10.6: BlockBytes %d: gone through within itself: %d", size, pairs)
		}
	}
}

func TestOpenKeepsNothing(t *testing.T) {
	l := someEntries(rand.New(rand.NewSource(11)), 30)
	room := append(laid(t, NewMaker(config(90, 3, 10)), l), "spare"...)
	was := slices.Clone(room)
	b := room[:len(room)-5]
	x := opened(t, b)
	all, meta := x.From(""), x.Meta()
	checkReads(t, x, l)
	if !bytes.Equal(room, was) {
		t.Errorf("P10.5: what was handed in was changed")
	}
	// Bytes 01 would be a filter of one probe, with few places that are 1.
	for _, c := range []byte{0, 1, 255} {
		for i := range room {
			room[i] = c
		}
		checkReads(t, x, l)
		if !slices.Equal(slices.Collect(all), l) || x.Meta() != meta {
			t.Errorf("P10.5: what was handed in was kept")
		}
	}
}

func TestTablesDoNotTouch(t *testing.T) {
	r := rand.New(rand.NewSource(12))
	l, other := someEntries(r, 20), someEntries(r, 25)
	b := someTable(r, l).bytes()
	x, y, z := opened(t, b), opened(t, someTable(r, other).bytes()), opened(t, b)
	for range x.From("") {
		checkReads(t, y, other)
		break
	}
	Open(b[1:])
	checkReads(t, x, l)
	checkReads(t, z, l)
	checkReads(t, y, other)
}
