package table

import (
	"bytes"

	"scree/api"
	"scree/block"
	"scree/bloom"
	"scree/codec"
)

// The functions of this file read a table that is handed to Open. Where its bytes are wrong they give up, by demand, and whoever called them isn't told: Open recovers from that.

// demand gives the reading up, if something doesn't hold.
func demand(holds bool) {
	if !holds {
		panic(api.ErrTableForm)
	}
}

// read reads a table's bytes, ahead of the sum.
func read(b []byte) *Table {
	blocks, index, filter, foot := split(b)
	t := &Table{filter: bytes.Clone(filter)}
	t.readBlocks(blocks, openBlock(index))
	demand(t.meta.Entries > 0)
	// A foot has one form: what it says is told anew, and has to come out as it lay. So all its numbers and keys are asked here.
	demand(bytes.Equal(foot, footOf(len(blocks), len(index), len(filter), t.meta)))
	t.meta.Bytes = len(b) + sumBytes
	return t
}

// split tells where the data blocks, the index, the filter and the foot lie, as far as the foot's first two numbers say. All are pieces of b.
func split(b []byte) (blocks, index, filter, foot []byte) {
	end := len(b) - (leastTail - sumBytes)
	start := end - int(b[end])
	demand(start >= 0)
	said := numbers(b[start:end])
	blocks, rest := cut(b[:start:start], said[0])
	index, filter = cut(rest, said[1])
	return blocks, index, filter, b[start:]
}

// readBlocks reads the data blocks, which have to stand as the index says.
func (t *Table) readBlocks(b []byte, index *block.Block) {
	place := 0
	for e := range index.All() {
		one, rest := cut(b, numbers([]byte(e.Val))[1])
		t.readBlock(one)
		demand(e == indexEntry(t.meta.Greatest, place, len(one)))
		place += len(one)
		b = rest
	}
	demand(len(b) == 0)
}

// readBlock reads the next data block.
func (t *Table) readBlock(b []byte) {
	p := part{entries: openBlock(b)}
	for e := range p.entries.All() {
		demand(e.Key > t.meta.Greatest && bloom.May(t.filter, e.Key))
		t.meta = counted(t.meta, e)
		p.greatest = e.Key
	}
	// Without an entry it has no greatest key, and a key has a byte at least.
	demand(p.greatest != "")
	t.parts = append(t.parts, p)
}

// openBlock reads a block.
func openBlock(b []byte) *block.Block {
	k, err := block.Open(b)
	demand(err == api.OK)
	return k
}

// numbers reads the two numbers that b begins with.
func numbers(b []byte) [2]uint64 {
	var l [2]uint64
	for i := range l {
		n, size, err := codec.Uint(b)
		demand(err == api.OK)
		l[i] = n
		b = b[size:]
	}
	return l
}

// cut tells the first n bytes of b, and the others.
func cut(b []byte, n uint64) (first, rest []byte) {
	demand(n <= uint64(len(b)))
	return b[:n:n], b[n:]
}
