package block

import (
	"bytes"
	"encoding/binary"
	"fmt"
	"hash/crc32"
	"math"
	"math/rand"
	"runtime"
	"slices"
	"sort"
	"strings"
	"testing"

	"scree/api"
)

// modelSum lays a sum from elsewhere behind b.
func modelSum(b []byte) []byte {
	return binary.LittleEndian.AppendUint32(slices.Clone(b), crc32.Checksum(b, crc32.MakeTable(crc32.Castagnoli)))
}

// modelEntry reckons P9.3 anew.
func modelEntry(ahead string, whole bool, e api.Entry) []byte {
	shared := 0
	for !whole && shared < len(ahead) && shared < len(e.Key) && ahead[:shared+1] == e.Key[:shared+1] {
		shared++
	}
	b := binary.AppendUvarint(nil, uint64(shared))
	b = binary.AppendUvarint(b, uint64(len(e.Key)-shared))
	tag := 2 * e.Seq
	if e.Del {
		tag++
	}
	b = binary.AppendUvarint(b, tag)
	b = append(b, e.Key[shared:]...)
	if !e.Del {
		b = binary.AppendUvarint(b, uint64(len(e.Val)))
		b = append(b, e.Val...)
	}
	return b
}

// modelBlock reckons P9.2 anew.
func modelBlock(restart int, l []api.Entry) []byte {
	var b, places []byte
	count := 0
	ahead := ""
	for i, e := range l {
		whole := i%restart == 0
		if whole {
			places = binary.LittleEndian.AppendUint32(places, uint32(len(b)))
			count++
		}
		b = append(b, modelEntry(ahead, whole, e)...)
		ahead = e.Key
	}
	b = append(b, places...)
	b = binary.LittleEndian.AppendUint32(b, uint32(count))
	return modelSum(b)
}

// modelRead takes the entries of a block's bytes apart, asking as little as it can.
func modelRead(b []byte) ([]api.Entry, bool) {
	if len(b) < 8 {
		return nil, false
	}
	count := int(binary.LittleEndian.Uint32(b[len(b)-8:]))
	end := len(b) - 8 - 4*count
	if end < 0 {
		return nil, false
	}
	var l []api.Entry
	ahead := ""
	for r := bytes.NewReader(b[:end]); r.Len() > 0; {
		shared, err1 := binary.ReadUvarint(r)
		rest, err2 := binary.ReadUvarint(r)
		tag, err3 := binary.ReadUvarint(r)
		if err1 != nil || err2 != nil || err3 != nil || shared > uint64(len(ahead)) || rest > uint64(r.Len()) {
			return nil, false
		}
		key := make([]byte, rest)
		r.Read(key)
		e := api.Entry{Key: ahead[:shared] + string(key), Seq: tag / 2, Del: tag%2 == 1}
		if !e.Del {
			size, err := binary.ReadUvarint(r)
			if err != nil || size > uint64(r.Len()) {
				return nil, false
			}
			val := make([]byte, size)
			r.Read(val)
			e.Val = string(val)
		}
		if len(e.Key) < 1 || len(e.Key) > 64 || len(e.Val) > 512 || e.Seq >= 1<<56 || e.Key <= ahead {
			return nil, false
		}
		l = append(l, e)
		ahead = e.Key
	}
	return l, true
}

// modelOpen reckons P9.6 anew: it tries every restart.
func modelOpen(b []byte) ([]api.Entry, bool) {
	l, ok := modelRead(b)
	if !ok {
		return nil, false
	}
	for r := 1; r <= len(l)+1; r++ {
		if bytes.Equal(modelBlock(r, l), b) {
			return l, true
		}
	}
	return nil, false
}

func modelSeek(l []api.Entry, key string) (api.Entry, bool) {
	for _, e := range l {
		if e.Key >= key {
			return e, true
		}
	}
	return api.Entry{}, false
}

// maker: a maker with these entries.
func maker(t *testing.T, restart int, l []api.Entry) *Maker {
	t.Helper()
	m := NewMaker(restart)
	for _, e := range l {
		if err := m.Add(e); err != api.OK {
			t.Fatalf("P9.4: Add of %q, %d: %d", e.Key, e.Seq, err)
		}
	}
	return m
}

// opened: the block of these bytes, which have to be one.
func opened(t *testing.T, b []byte) *Block {
	t.Helper()
	k, err := Open(b)
	if k == nil || err != api.OK {
		t.Fatalf("P9.6: Open of % X: %d", b, err)
	}
	return k
}

func refused(t *testing.T, what string, b []byte) {
	t.Helper()
	if k, err := Open(b); k != nil || err != api.ErrBlockForm {
		t.Errorf("P9.6: %s: answered a block: %v, %d, not ErrBlockForm", what, k != nil, err)
	}
}

func three() []api.Entry {
	return []api.Entry{{Key: "a", Seq: 1, Val: "x"}, {Key: "ab", Seq: 2, Del: true}, {Key: "b", Seq: 3}}
}

// someEntries: n entries, rising, with keys that share much, at times at the bounds of what can be written.
func someEntries(r *rand.Rand, n int) []api.Entry {
	keys := map[string]int{}
	for len(keys) < n {
		size := 1 + r.Intn(6)
		if r.Intn(10) == 0 {
			size = 62 + r.Intn(3)
		}
		key := bytes.Repeat([]byte{"a\xFF"[r.Intn(2)]}, size)
		for range 3 {
			key[r.Intn(size)] = "ab\x00\xFF"[r.Intn(4)]
		}
		keys[string(key)]++
	}
	var l []api.Entry
	for key := range keys {
		e := api.Entry{Key: key, Seq: r.Uint64() >> (8 + r.Intn(56)), Del: r.Intn(3) == 0}
		if !e.Del {
			e.Val = strings.Repeat("v", []int{0, 1, 5, 127, 128, 512}[r.Intn(6)])
		}
		l = append(l, e)
	}
	sort.Slice(l, func(i, j int) bool { return l[i].Key < l[j].Key })
	return l
}

func TestExamples(t *testing.T) {
	for _, c := range []struct {
		restart int
		want    string
		size    int
	}{
		{2, "00 01 02 61 01 78 01 01 05 62 00 01 06 62 00 00 00 00 00 0A 00 00 00 02 00 00 00", 31},
		{1, "00 01 02 61 01 78 00 02 05 61 62 00 01 06 62 00 00 00 00 00 06 00 00 00 0B 00 00 00 03 00 00 00", 36},
		{3, "00 01 02 61 01 78 01 01 05 62 00 01 06 62 00 00 00 00 00 01 00 00 00", 27},
		{4, "00 01 02 61 01 78 01 01 05 62 00 01 06 62 00 00 00 00 00 01 00 00 00", 27},
		{math.MaxInt, "00 01 02 61 01 78 01 01 05 62 00 01 06 62 00 00 00 00 00 01 00 00 00", 27},
	} {
		m := maker(t, c.restart, three())
		b := m.Bytes()
		if len(b) != c.size || m.Size() != c.size {
			t.Fatalf("P9.2: restart %d: %d bytes, Size %d, want %d", c.restart, len(b), m.Size(), c.size)
		}
		if got := fmt.Sprintf("% X", b[:len(b)-4]); got != c.want {
			t.Errorf("P9.3: restart %d: %s, want %s", c.restart, got, c.want)
		}
		if !bytes.Equal(b, modelSum(b[:len(b)-4])) {
			t.Errorf("P9.2: restart %d: the sum % X", c.restart, b[len(b)-4:])
		}
		k := opened(t, b)
		for key, at := range map[string]string{"aa": "ab", "b": "b", "c": "", "": "a"} {
			if e, ok := k.Seek(key); e.Key != at || ok != (at != "") {
				t.Errorf("P9.7: restart %d: Seek(%q): %v, %v", c.restart, key, e, ok)
			}
		}
	}
}

func TestNoEntries(t *testing.T) {
	for _, restart := range []int{math.MinInt, -1, 0, 1, 2, 16, math.MaxInt} {
		m := NewMaker(restart)
		b := m.Bytes()
		if m.Size() != 8 || !bytes.Equal(b, modelBlock(1, nil)) {
			t.Errorf("P9.3: restart %d: no entries: Size %d, % X", restart, m.Size(), b)
		}
		k := opened(t, b)
		for e := range k.All() {
			t.Errorf("P9.7: All of no entries: %v", e)
		}
		for _, key := range []string{"", "a", "\xFF"} {
			if e, ok := k.Seek(key); ok || e != (api.Entry{}) {
				t.Errorf("P9.7: Seek(%q) of no entries: %v, %v", key, e, ok)
			}
		}
	}
}

func TestRestartBelowOne(t *testing.T) {
	want := modelBlock(1, three())
	for _, restart := range []int{math.MinInt, -2, -1, 0, 1} {
		if b := maker(t, restart, three()).Bytes(); !bytes.Equal(b, want) {
			t.Errorf("P9.4: restart %d doesn't count as 1: % X", restart, b)
		}
	}
	if b := maker(t, 2, three()).Bytes(); bytes.Equal(b, want) {
		t.Errorf("P9.4: restart 2 counts as 1")
	}
}

func TestZeroObjects(t *testing.T) {
	var m Maker
	for _, e := range three() {
		if err := m.Add(e); err != api.OK {
			t.Errorf("P9.4: Add to a zero Maker: %d", err)
		}
	}
	if !bytes.Equal(m.Bytes(), modelBlock(1, three())) {
		t.Errorf("P9.4: a zero Maker: % X", m.Bytes())
	}
	var k Block
	if e, ok := k.Seek(""); ok || e != (api.Entry{}) || len(slices.Collect(k.All())) > 0 {
		t.Errorf("P9.7: a zero Block: %v, %v", e, ok)
	}
}

func TestAddErrors(t *testing.T) {
	long, big := strings.Repeat("k", 65), strings.Repeat("v", 513)
	for _, c := range []struct {
		what string
		e    api.Entry
		want api.Errno
	}{
		{"a key without bytes", api.Entry{}, api.ErrKeyEmpty},
		{"a key without bytes, a value too long, a number too great", api.Entry{Seq: 1 << 56, Val: big}, api.ErrKeyEmpty},
		{"a key of 65 bytes", api.Entry{Key: long}, api.ErrKeyLong},
		{"a key of 65 bytes, a value too long", api.Entry{Key: long, Val: big}, api.ErrKeyLong},
		{"a key of 65 bytes, deleted, with a value", api.Entry{Key: long, Del: true, Val: "x"}, api.ErrKeyLong},
		{"a value of 513 bytes", api.Entry{Key: "c", Val: big}, api.ErrValueLong},
		{"a value of 513 bytes, a number too great, a key that doesn't rise", api.Entry{Key: "a", Seq: 1 << 56, Val: big}, api.ErrValueLong},
		{"deleted, with a value", api.Entry{Key: "c", Del: true, Val: "x"}, api.ErrBlockForm},
		{"deleted, with a value of 513 bytes", api.Entry{Key: "c", Del: true, Val: big}, api.ErrBlockForm},
		{"deleted, with a value, a key that doesn't rise", api.Entry{Key: "b", Del: true, Val: "x"}, api.ErrBlockForm},
		{"a number of 2^56", api.Entry{Key: "c", Seq: 1 << 56}, api.ErrBlockForm},
		{"a number of 2^56, deleted", api.Entry{Key: "c", Seq: 1 << 56, Del: true}, api.ErrBlockForm},
		{"a number of 2^63", api.Entry{Key: "c", Seq: 1 << 63}, api.ErrBlockForm},
		{"a number of 2^64 - 1", api.Entry{Key: "c", Seq: math.MaxUint64}, api.ErrBlockForm},
		{"a number of 2^56, a key that doesn't rise", api.Entry{Key: "a", Seq: 1 << 56}, api.ErrBlockForm},
		{"the key again", api.Entry{Key: "b", Seq: 4}, api.ErrBlockOrder},
		{"the key again, deleted", api.Entry{Key: "b", Seq: 4, Del: true}, api.ErrBlockOrder},
		{"a key below", api.Entry{Key: "a", Seq: 4}, api.ErrBlockOrder},
		{"a longer key below", api.Entry{Key: "az", Seq: 4}, api.ErrBlockOrder},
	} {
		m := maker(t, 2, []api.Entry{{Key: "b", Seq: 3}})
		if err := m.Add(c.e); err != c.want {
			t.Errorf("P9.4: %s: %d, want %d", c.what, err, c.want)
		}
		if want := modelBlock(2, []api.Entry{{Key: "b", Seq: 3}}); m.Size() != len(want) || !bytes.Equal(m.Bytes(), want) {
			t.Errorf("P9.4: %s: something is laid down", c.what)
		}
		// What was refused is no entry: neither an order nor a restart point hangs on it.
		l := []api.Entry{{Key: "b", Seq: 3}, {Key: "b\x00", Seq: 1}, {Key: "b\x00\x00", Seq: 2}}
		for _, e := range l[1:] {
			if err := m.Add(e); err != api.OK {
				t.Errorf("P9.4: behind %s: %d", c.what, err)
			}
		}
		if !bytes.Equal(m.Bytes(), modelBlock(2, l)) {
			t.Errorf("P9.4: behind %s: % X", c.what, m.Bytes())
		}
	}
}

func TestErrorsOfAnEmptyMaker(t *testing.T) {
	m := NewMaker(1)
	for e, want := range map[api.Entry]api.Errno{
		{}:                                api.ErrKeyEmpty,
		{Key: "a", Seq: 1 << 56}:          api.ErrBlockForm,
		{Key: "a", Del: true, Val: "x"}:   api.ErrBlockForm,
		{Key: strings.Repeat("\x00", 65)}: api.ErrKeyLong,
	} {
		if err := m.Add(e); err != want || m.Size() != 8 {
			t.Errorf("P9.4: Add of %q to none: %d, want %d; Size %d", e.Key, err, want, m.Size())
		}
	}
	if err := m.Add(api.Entry{Key: "\x00"}); err != api.OK {
		t.Errorf("P9.4: the least key of all: %d", err)
	}
}

func TestEdges(t *testing.T) {
	l := []api.Entry{
		{Key: "\x00"},
		{Key: "\x00\x00", Seq: 1<<56 - 1, Del: true},
		{Key: "\x00\x00\x00", Seq: 1<<56 - 1, Val: strings.Repeat("\xFF", 512)},
		{Key: strings.Repeat("k", 63), Val: strings.Repeat("v", 127)},
		{Key: strings.Repeat("k", 64), Seq: 63, Val: strings.Repeat("v", 128)},
		{Key: strings.Repeat("k", 63) + "l", Seq: 64},
		{Key: strings.Repeat("\xFF", 64), Seq: 1, Del: true},
	}
	for restart := 1; restart <= len(l)+1; restart++ {
		b := maker(t, restart, l).Bytes()
		if !bytes.Equal(b, modelBlock(restart, l)) {
			t.Errorf("P9.1: restart %d: % X", restart, b)
		}
		if got := slices.Collect(opened(t, b).All()); !slices.Equal(got, l) {
			t.Errorf("P9.8: restart %d: %v", restart, got)
		}
	}
}

func TestMakerGoesOn(t *testing.T) {
	r := rand.New(rand.NewSource(1))
	for restart := 1; restart <= 6; restart++ {
		l := someEntries(r, 25)
		m := NewMaker(restart)
		for i := range len(l) + 1 {
			want := modelBlock(restart, l[:i])
			if m.Size() != len(want) {
				t.Fatalf("P9.5: restart %d: Size of %d entries: %d, want %d", restart, i, m.Size(), len(want))
			}
			for range 2 {
				b := m.Bytes()
				if !bytes.Equal(b, want) {
					t.Fatalf("P9.5: restart %d: Bytes of %d entries: % X", restart, i, b)
				}
				clear(b[:cap(b)])
			}
			if i < len(l) {
				m.Add(l[i])
			}
		}
	}
}

func TestMakersDoNotTouch(t *testing.T) {
	one, other := NewMaker(2), NewMaker(3)
	l := three()
	for _, e := range l {
		one.Add(e)
		if err := other.Add(api.Entry{Key: "z" + e.Key, Seq: 9}); err != api.OK {
			t.Errorf("P9.4: another maker: %d", err)
		}
	}
	first := one.Bytes()
	one.Add(api.Entry{Key: "c"})
	other.Bytes()
	if !bytes.Equal(first, modelBlock(2, l)) {
		t.Errorf("P9.5: an answer was touched by what came behind it: % X", first)
	}
}

func TestRoundTrip(t *testing.T) {
	r := rand.New(rand.NewSource(2))
	for i := range 400 {
		l := someEntries(r, r.Intn(40))
		restart := 1 + r.Intn(len(l)+3)
		b := maker(t, restart, l).Bytes()
		if !bytes.Equal(b, modelBlock(restart, l)) {
			t.Fatalf("P9.2: round %d: restart %d: % X", i, restart, b)
		}
		k := opened(t, b)
		if got := slices.Collect(k.All()); !slices.Equal(got, l) {
			t.Fatalf("P9.8: round %d: restart %d: %v, want %v", i, restart, got, l)
		}
		if again := maker(t, restart, slices.Collect(k.All())).Bytes(); !bytes.Equal(again, b) {
			t.Fatalf("P9.8: round %d: restart %d: made again: % X", i, restart, again)
		}
		checkSeek(t, restart, k, l)
	}
}

func checkSeek(t *testing.T, restart int, k *Block, l []api.Entry) {
	t.Helper()
	keys := []string{"", "\x00", "a", "\xFF", strings.Repeat("\xFF", 64), strings.Repeat("\xFF", 1000)}
	for _, e := range l {
		keys = append(keys, e.Key, e.Key+"\x00", e.Key+"\xFF", e.Key[:len(e.Key)-1], e.Key[:len(e.Key)/2], e.Key+strings.Repeat("q", 70))
	}
	for _, key := range keys {
		e, ok := k.Seek(key)
		if want, there := modelSeek(l, key); e != want || ok != there {
			t.Fatalf("P9.7: restart %d: Seek(%q): %v, %v, want %v, %v", restart, key, e, ok, want, there)
		}
	}
}

func TestAllMayBeLeft(t *testing.T) {
	l := someEntries(rand.New(rand.NewSource(3)), 20)
	for _, restart := range []int{1, 3, 7, 30} {
		all := opened(t, modelBlock(restart, l)).All()
		for n := range l {
			seen := 0
			for e := range all {
				if e != l[seen] {
					t.Fatalf("P9.7: restart %d: entry %d: %v", restart, seen, e)
				}
				if seen == n {
					break
				}
				seen++
			}
		}
		var pairs int
		for range all {
			for range all {
				pairs++
			}
		}
		if pairs != len(l)*len(l) {
			t.Errorf("P9.7: restart %d: gone through within itself: %d", restart, pairs)
		}
	}
}

func TestOpenKeepsNothing(t *testing.T) {
	room := append(modelBlock(2, three()), "spare"...)
	b := room[:len(room)-5]
	was := slices.Clone(room)
	k := opened(t, b)
	all := k.All()
	k.Seek("b")
	for range all {
	}
	if !bytes.Equal(room, was) {
		t.Errorf("P9.6: what was handed in was changed: % X", room)
	}
	clear(room)
	if got := slices.Collect(all); !slices.Equal(got, three()) {
		t.Errorf("P9.6: what was handed in was kept: %v", got)
	}
	if e, ok := k.Seek("aa"); !ok || e != three()[1] {
		t.Errorf("P9.6: what was handed in was kept: %v, %v", e, ok)
	}
}

// tail lays places, how many they are, and the sum behind entries.
func tail(entries string, count int, places ...uint32) []byte {
	b := []byte(entries)
	for _, p := range places {
		b = binary.LittleEndian.AppendUint32(b, p)
	}
	return modelSum(binary.LittleEndian.AppendUint32(b, uint32(count)))
}

func TestOpenRefuses(t *testing.T) {
	const a, b = "\x00\x01\x02a\x01x", "\x00\x01\x06b\x00"
	const ab, abWhole = "\x01\x01\x05b", "\x00\x02\x05ab"
	long := strings.Repeat("k", 65)
	refused(t, "nothing", nil)
	for n := range 8 {
		refused(t, "fewer than eight bytes", make([]byte, n))
	}
	for what, x := range map[string][]byte{
		"eight bytes with a wrong sum":                  {0, 0, 0, 0, 0, 0, 0, 0},
		"a place without an entry":                      tail("", 1, 0),
		"more places than bytes":                        tail(a, 3, 0),
		"the most places of all":                        tail(a, 1<<32-1, 0),
		"places whose bytes pass 2^32":                  tail(a, 1<<30, 0),
		"fewer places than said":                        tail(a, 2, 0),
		"no place, but an entry":                        tail(a, 0),
		"one place more than said":                      tail(a, 1, 0, 0),
		"a first place that isn't 0":                    tail(a, 1, 1),
		"the place behind the last entry":               tail(a, 2, 0, 6),
		"a place twice":                                 tail(a+abWhole, 2, 0, 0),
		"a place within an entry":                       tail(a+abWhole, 2, 0, 5),
		"places the other way round":                    tail(a+abWhole, 2, 6, 0),
		"places above 2^31":                             tail(a+abWhole, 2, 0, 1<<31+6),
		"a restart point with a shared prefix":          tail(a+ab, 2, 0, 6),
		"a key that stands whole and isn't to":          tail(a+abWhole, 1, 0),
		"a key that shares nothing of what it could":    tail("\x00\x02\x02aa\x00"+"\x00\x02\x02ab\x00", 1, 0),
		"a key that shares less than it could":          tail("\x00\x02\x02aa\x00"+"\x00\x02\x02ab\x00", 1, 0),
		"a key that shares one too few":                 tail("\x00\x03\x02aaa\x00"+"\x01\x02\x02ab\x00", 1, 0),
		"a first entry that shares":                     tail("\x01\x01\x02a\x00", 1, 0),
		"a key that shares more than there is":          tail(a+"\x02\x01\x05b", 1, 0),
		"a key that shares 2^64 - 1 bytes":              tail(a+strings.Repeat("\xFF", 9)+"\x01"+"\x01\x05b", 1, 0),
		"2^64 - 1 bytes of a key":                       tail("\x00"+strings.Repeat("\xFF", 9)+"\x01"+"\x05b", 1, 0),
		"a restart point left out":                      tail(a+abWhole+b+"\x00\x01\x06c\x00", 3, 0, 6, 11),
		"restart points at unlike distances":            tail(a+abWhole+b+"\x00\x01\x06c\x00", 3, 0, 6, 16),
		"restart points at unlike distances, the other": tail(a+ab+b+"\x00\x01\x06c\x00", 3, 0, 10, 15),
		"a last restart point too few":                  tail(a+ab+b+"\x00\x01\x06c\x00"+"\x00\x01\x06d\x00", 2, 0, 10),
		"a key again":                                   tail(a+"\x00\x01\x02a\x00", 2, 0, 6),
		"a key again, shared":                           tail(a+"\x01\x00\x02\x00", 1, 0),
		"a key that falls":                              tail(b+a, 2, 0, 5),
		"a key without bytes":                           tail("\x00\x00\x02\x00", 1, 0),
		"a key of 65 bytes":                             tail("\x00\x41\x02"+long+"\x00", 1, 0),
		"a key of 64 and one bytes":                     tail("\x00\x40\x02"+long[1:]+"\x00"+"\x40\x01\x02k\x00", 1, 0),
		"a value of 513 bytes":                          tail("\x00\x01\x02a\x81\x04"+strings.Repeat("v", 513), 1, 0),
		"a number of 2^56":                              tail("\x00\x01\x80\x80\x80\x80\x80\x80\x80\x80\x02a\x00", 1, 0),
		"a number of 2^56, deleted":                     tail("\x00\x01\x81\x80\x80\x80\x80\x80\x80\x80\x02a", 1, 0),
		"a number of 2^63 - 1, deleted":                 tail("\x00\x01"+strings.Repeat("\xFF", 9)+"\x01"+"a", 1, 0),
		"a shared length not in its one form":           tail("\x80\x00\x01\x02a\x01x", 1, 0),
		"a rest's length not in its one form":           tail("\x00\x81\x00\x02a\x01x", 1, 0),
		"a number not in its one form":                  tail("\x00\x01\x82\x00a\x01x", 1, 0),
		"a value's length not in its one form":          tail("\x00\x01\x02a\x81\x00x", 1, 0),
		"a deleted entry with a value":                  tail("\x00\x01\x05a\x01x", 1, 0),
		"a deleted entry with a value without bytes":    tail("\x00\x01\x05a\x00", 1, 0),
		"an entry that ends in its shared length":       tail(a+"\x80", 1, 0),
		"an entry that ends behind its shared length":   tail(a+"\x00", 1, 0),
		"an entry that ends behind its rest's length":   tail(a+"\x00\x01", 1, 0),
		"an entry that ends behind its number":          tail(a+"\x00\x01\x06", 1, 0),
		"an entry that ends in its key":                 tail(a+"\x00\x02\x05b", 1, 0),
		"an entry that ends behind its key":             tail(a+"\x00\x01\x06b", 1, 0),
		"an entry that ends in its value":               tail(a+"\x00\x01\x06b\x02v", 1, 0),
		"a byte between entries and places":             tail(a+"\x01", 1, 0),
		"a byte behind the sum":                         append(tail(a, 1, 0), 0),
		"a block behind the block":                      append(tail(a, 1, 0), tail(a, 1, 0)...),
		"four bytes 0 behind the sum":                   append(tail(a, 1, 0), 0, 0, 0, 0),
	} {
		refused(t, what, x)
	}
	for i, x := range [][]byte{tail("", 0), tail(a, 1, 0), tail(a+ab, 1, 0), tail(a+abWhole, 2, 0, 6), tail(a+abWhole+b, 3, 0, 6, 11), tail(a+ab+b, 2, 0, 10), tail(a+ab+b+"\x00\x01\x06c\x00", 2, 0, 10)} {
		if k, err := Open(x); k == nil || err != api.OK {
			t.Errorf("P9.6: right bytes %d: %d", i, err)
		}
	}
}

// bend changes some of a block's bytes, ahead of its sum.
func bend(r *rand.Rand, b []byte) []byte {
	b = slices.Clone(b[:len(b)-4])
	for range 1 + r.Intn(2) {
		at := r.Intn(len(b))
		switch r.Intn(7) {
		case 0:
			b[at] = byte(r.Intn(256))
		case 1:
			b[at] = byte(r.Intn(4))
		case 2:
			b = slices.Insert(b, at, byte(r.Intn(3)))
		case 3:
			if len(b) > 4 {
				b = slices.Delete(b, at, at+1)
			}
		case 4:
			b[at]++
		case 5:
			b[at]--
		case 6:
			b[len(b)-4] += byte(r.Intn(3)) - 1
		}
	}
	return modelSum(b)
}

func TestOpenAsTheModel(t *testing.T) {
	r := rand.New(rand.NewSource(4))
	taken, gone := 0, 0
	for range 6000 {
		l := someEntries(r, r.Intn(7))
		for i := range l {
			l[i].Val = l[i].Val[:min(len(l[i].Val), 3)]
		}
		b := bend(r, modelBlock(1+r.Intn(4), l))
		want, ok := modelOpen(b)
		k, err := Open(b)
		if !ok {
			gone++
			if k != nil || err != api.ErrBlockForm {
				t.Fatalf("P9.6: % X: %d, not ErrBlockForm", b, err)
			}
			continue
		}
		taken++
		if k == nil || err != api.OK || !slices.Equal(slices.Collect(k.All()), want) {
			t.Fatalf("P9.6: % X: %d, want %v", b, err, want)
		}
		checkSeek(t, 0, k, want)
	}
	if taken < 300 || gone < 300 {
		t.Errorf("P9.6: the test asks too little: %d taken, %d refused", taken, gone)
	}
}

func TestTurnedBits(t *testing.T) {
	r := rand.New(rand.NewSource(5))
	for restart := 1; restart <= 4; restart++ {
		b := modelBlock(restart, append(three(), api.Entry{Key: "bcd", Seq: r.Uint64() >> 8, Val: "value"}))
		if restart == 4 {
			b = modelBlock(1, nil)
		}
		opened(t, b)
		for bit := range 8 * len(b) {
			for i := range 12 {
				mask := uint32(1)
				if i > 0 {
					mask = r.Uint32()>>r.Intn(32) | 1
				}
				if x, ok := turned(b, bit, mask); ok {
					refused(t, fmt.Sprintf("P9.9: bits %X from %d on", mask, bit), x)
				}
			}
		}
	}
}

// turned turns the bits of the mask, from a bit on; it tells whether all of them lie in b.
func turned(b []byte, bit int, mask uint32) ([]byte, bool) {
	x := slices.Clone(b)
	for i := range 32 {
		if mask>>i&1 == 0 {
			continue
		}
		at := bit + i
		if at >= 8*len(x) {
			return nil, false
		}
		x[at/8] ^= 1 << (at % 8)
	}
	return x, true
}

func TestFirstParts(t *testing.T) {
	r := rand.New(rand.NewSource(6))
	for i := range 60 {
		l := someEntries(r, r.Intn(12))
		b := modelBlock(1+r.Intn(6), l)
		for n := range b {
			refused(t, fmt.Sprintf("P9.9: round %d: the first %d bytes", i, n), b[:n])
			// The bytes behind a first part are still there: they may not be looked at.
			refused(t, "P9.9: a first part of its own", slices.Clone(b[:n]))
		}
	}
}

func TestManyEntries(t *testing.T) {
	const n = 50000
	var l []api.Entry
	for i := range n {
		l = append(l, api.Entry{Key: fmt.Sprintf("key%08d", 2*i), Seq: uint64(i), Val: "v"})
	}
	for _, restart := range []int{1, 16, n} {
		m := maker(t, restart, l)
		if m.Size() != len(m.Bytes()) {
			t.Fatalf("P9.5: restart %d: Size %d of %d", restart, m.Size(), len(m.Bytes()))
		}
		k := opened(t, m.Bytes())
		for i := 0; i < n-1; i += 4999 {
			if e, ok := k.Seek(fmt.Sprintf("key%08d", 2*i+1)); !ok || e != l[i+1] {
				t.Errorf("P9.7: restart %d: behind entry %d: %v, %v", restart, i, e, ok)
			}
		}
		seen := 0
		for e := range k.All() {
			if e != l[seen] {
				t.Fatalf("P9.7: restart %d: entry %d: %v", restart, seen, e)
			}
			seen++
		}
		if seen != n {
			t.Errorf("P9.7: restart %d: %d entries", restart, seen)
		}
	}
}

// Keys that each share the whole one ahead and go on would have, together, the square of the bytes that are handed in.
func TestKeysThatGrow(t *testing.T) {
	const n = 2000
	var b []byte
	for i := range n {
		b = binary.AppendUvarint(b, uint64(64*i))
		b = append(b, 64, 1)
		b = append(b, strings.Repeat("k", 64)...)
	}
	x := tail(string(b), 2, 0, uint32(len(b)-1))
	var before, behind runtime.MemStats
	runtime.ReadMemStats(&before)
	refused(t, "keys that grow", x)
	runtime.ReadMemStats(&behind)
	if used := behind.TotalAlloc - before.TotalAlloc; used > 1<<22 {
		t.Errorf("P9.6: keys that grow: %d bytes were used for %d", used, len(x))
	}
}
