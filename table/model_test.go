package table

import (
	"bytes"
	"encoding/binary"
	"hash/crc32"
	"math/rand"
	"slices"
	"sort"
	"strings"
	"testing"

	"scree/api"
	"scree/block"
	"scree/bloom"
	"scree/codec"
)

// modelSum lays a sum from elsewhere behind b.
func modelSum(b []byte) []byte {
	return binary.LittleEndian.AppendUint32(slices.Clone(b), crc32.Checksum(b, crc32.MakeTable(crc32.Castagnoli)))
}

func modelWeight(l []api.Entry) int {
	sum := 0
	for _, e := range l {
		sum += 2*len(e.Key) + 448
		if !e.Del {
			sum += len(e.Val)
		}
	}
	return sum
}

// blockOf: a block of layer 9.
func blockOf(restart int, l []api.Entry) []byte {
	m := block.NewMaker(restart)
	for _, e := range l {
		if err := m.Add(e); err != api.OK {
			panic(err)
		}
	}
	return m.Bytes()
}

// uints: numbers, one behind the other.
func uints(l ...uint64) string {
	var b []byte
	for _, n := range l {
		b = binary.AppendUvarint(b, n)
	}
	return string(b)
}

// pieces: all that a table's bytes are made of, each to be bent on its own.
type pieces struct {
	blocks  [][]byte
	index   []byte
	filter  []byte
	numbers [5]uint64
	texts   [2]string
	more    int // added to how many bytes of the foot are said to be ahead
	mark    string
	behind  string // stands between filter and foot
}

// piecesOf reckons P10.1 anew: the data blocks have these entries and restarts.
func piecesOf(parts [][]api.Entry, restarts []int, indexRestart int, filter []byte) pieces {
	p := pieces{filter: filter, mark: "scr1"}
	var index, all []api.Entry
	at := 0
	for i, l := range parts {
		b := blockOf(restarts[i], l)
		p.blocks = append(p.blocks, b)
		index = append(index, api.Entry{Key: l[len(l)-1].Key, Val: uints(uint64(at), uint64(len(b)))})
		at += len(b)
		all = append(all, l...)
	}
	p.index = blockOf(indexRestart, index)
	p.numbers = [5]uint64{uint64(at), uint64(len(p.index)), uint64(len(filter)), uint64(len(all)), uint64(modelWeight(all))}
	p.texts = [2]string{all[0].Key, all[len(all)-1].Key}
	return p
}

// bytes: the table's bytes, as bent as its pieces are, with a right sum.
func (p pieces) bytes() []byte {
	b := slices.Concat(slices.Concat(p.blocks...), p.index, p.filter, []byte(p.behind))
	foot := []byte(uints(p.numbers[:]...))
	for _, s := range p.texts {
		foot = append(binary.AppendUvarint(foot, uint64(len(s))), s...)
	}
	foot = append(foot, byte(len(foot)+p.more))
	return modelSum(slices.Concat(b, foot, []byte(p.mark)))
}

// modelMade reckons P10.2 and P10.3 anew: what Add answers of each entry, and End.
func modelMade(c api.Config, l []api.Entry) ([][]byte, []byte) {
	var answers [][]byte
	var parts [][]api.Entry
	var restarts []int
	var under []api.Entry
	for _, e := range l {
		under = append(under, e)
		b := blockOf(c.Restart, under)
		if len(b) < c.BlockBytes {
			answers = append(answers, nil)
			continue
		}
		answers = append(answers, b)
		parts, restarts, under = append(parts, under), append(restarts, c.Restart), nil
	}
	if under != nil {
		parts, restarts = append(parts, under), append(restarts, c.Restart)
	}
	whole := piecesOf(parts, restarts, c.Restart, bloom.Make(keysOf(l), c.BloomBits)).bytes()
	return answers, whole[len(slices.Concat(answers...)):]
}

func keysOf(l []api.Entry) []string {
	var keys []string
	for _, e := range l {
		keys = append(keys, e.Key)
	}
	return keys
}

// modelFoot takes a foot apart: where it begins, and its numbers and texts.
func modelFoot(b []byte) (start int, numbers [5]uint64, texts [2]string, ok bool) {
	end := len(b) - 9
	start = end - int(b[end])
	if start < 0 || string(b[end+1:end+5]) != "scr1" {
		return
	}
	at := start
	for i := range numbers {
		n, size, err := codec.Uint(b[at:end])
		if err != api.OK {
			return
		}
		numbers[i], at = n, at+size
	}
	for i := range texts {
		s, size, err := codec.Text(b[at:end], 64)
		if err != api.OK {
			return
		}
		texts[i], at = s, at+size
	}
	ok = at == end
	return
}

// modelOpen reckons P10.5 anew: what is asked of a table's bytes, one thing after the other.
func modelOpen(b []byte) ([]api.Entry, api.Errno) {
	if len(b) < 9 {
		return nil, api.ErrTableForm
	}
	if !bytes.Equal(modelSum(b[:len(b)-4]), b) {
		return nil, api.ErrTableSum
	}
	start, n, texts, ok := modelFoot(b)
	size := uint64(len(b))
	if !ok || n[0] > size || n[1] > size || n[2] > size || n[0]+n[1]+n[2] != uint64(start) {
		return nil, api.ErrTableForm
	}
	l, ok := modelBlocks(b[:n[0]], b[n[0]:n[0]+n[1]])
	if !ok || len(l) == 0 || n[3] != uint64(len(l)) || n[4] != uint64(modelWeight(l)) || texts[0] != l[0].Key || texts[1] != l[len(l)-1].Key {
		return nil, api.ErrTableForm
	}
	for i, e := range l {
		if !bloom.May(b[n[0]+n[1]:start], e.Key) || i > 0 && l[i-1].Key >= e.Key {
			return nil, api.ErrTableForm
		}
	}
	return l, api.OK
}

// modelBlocks: the entries of data blocks, as an index says where they stand.
func modelBlocks(b, index []byte) ([]api.Entry, bool) {
	k, err := block.Open(index)
	if err != api.OK {
		return nil, false
	}
	var l []api.Entry
	at := uint64(0)
	for e := range k.All() {
		place, n1, err1 := codec.Uint([]byte(e.Val))
		size, n2, err2 := codec.Uint([]byte(e.Val[n1:]))
		if e.Seq != 0 || e.Del || err1 != api.OK || err2 != api.OK || n1+n2 != len(e.Val) || place != at || size > uint64(len(b))-at {
			return nil, false
		}
		data, err := block.Open(b[at : at+size])
		if err != api.OK {
			return nil, false
		}
		part := slices.Collect(data.All())
		if len(part) == 0 || part[len(part)-1].Key != e.Key {
			return nil, false
		}
		l = append(l, part...)
		at += size
	}
	return l, at == uint64(len(b))
}

// someEntries: n entries, rising, with keys that share much, at times at the bounds of what can be written.
func someEntries(r *rand.Rand, n int) []api.Entry {
	keys := map[string]int{}
	for len(keys) < n {
		size := 1 + r.Intn(8)
		if r.Intn(10) == 0 {
			size = 62 + r.Intn(3)
		}
		key := bytes.Repeat([]byte{"a\xFF"[r.Intn(2)]}, size)
		for range 4 {
			key[r.Intn(size)] = "abc\x00\xFF"[r.Intn(5)]
		}
		keys[string(key)]++
	}
	var l []api.Entry
	for key := range keys {
		e := api.Entry{Key: key, Del: r.Intn(3) == 0}
		l = append(l, e)
	}
	sort.Slice(l, func(i, j int) bool { return l[i].Key < l[j].Key })
	for i := range l {
		l[i].Seq = r.Uint64() >> (8 + r.Intn(56))
		if !l[i].Del {
			l[i].Val = strings.Repeat("v", []int{0, 1, 5, 127, 128, 512}[r.Intn(6)])
		}
	}
	return l
}

// someParts cuts entries into parts with restarts, as no maker needs to.
func someParts(r *rand.Rand, l []api.Entry) ([][]api.Entry, []int) {
	var parts [][]api.Entry
	var restarts []int
	for len(l) > 0 {
		n := 1 + r.Intn(min(len(l), 6))
		parts, restarts = append(parts, l[:n]), append(restarts, 1+r.Intn(5))
		l = l[n:]
	}
	return parts, restarts
}

// someFilter: bytes that say nothing against the keys of these entries.
func someFilter(r *rand.Rand, l []api.Entry) []byte {
	switch r.Intn(5) {
	case 0:
		return nil
	case 1:
		return []byte("some")
	case 2:
		return make([]byte, 9+r.Intn(20))
	case 3:
		return append(bytes.Repeat([]byte{255}, 8+r.Intn(20)), byte(r.Intn(256)))
	}
	return bloom.Make(keysOf(l), 1+r.Intn(16))
}

// someTable: a table's bytes, of a form that no maker needs to choose.
func someTable(r *rand.Rand, l []api.Entry) pieces {
	parts, restarts := someParts(r, l)
	return piecesOf(parts, restarts, 1+r.Intn(5), someFilter(r, l))
}

// metaOf reckons the Meta of a table of these entries.
func metaOf(l []api.Entry, size int) api.Table {
	if len(l) == 0 {
		return api.Table{Bytes: size}
	}
	return api.Table{Weight: modelWeight(l), Bytes: size, Entries: len(l), Least: l[0].Key, Greatest: l[len(l)-1].Key}
}

// opened: the table of these bytes, which have to be one.
func opened(t *testing.T, b []byte) *Table {
	t.Helper()
	x, err := Open(b)
	if x == nil || err != api.OK {
		t.Fatalf("P10.5: Open of % X: %d", b, err)
	}
	return x
}

// refused: bytes that are no table's, though their sum is right.
func refused(t *testing.T, what string, b []byte) {
	t.Helper()
	if x, err := Open(b); x != nil || err != api.ErrTableForm {
		t.Errorf("P10.5: %s: answered a table: %v, %d, not ErrTableForm", what, x != nil, err)
	}
}
