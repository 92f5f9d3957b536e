package table

import (
	"slices"

	"scree/api"
	"scree/block"
	"scree/bloom"
)

// noEntries: how many bytes a block without entries has.
const noEntries = 8

// Maker: it makes a table's bytes, piece by piece.
type Maker struct {
	*block.Maker // the data block under way; its Add is hidden by the table's own
	index        *block.Maker
	blockBytes   int
	restart      int
	bits         int
	keys         []string // what the filter is made of; none, if there will be no filter
	laid         []byte   // all that was answered: the foot has a sum of it
	meta         api.Table
	ended        bool
}

// NewMaker makes one.
func NewMaker(c api.Config) *Maker {
	return &Maker{
		Maker:      block.NewMaker(c.Restart),
		index:      block.NewMaker(c.Restart),
		blockBytes: c.BlockBytes,
		restart:    c.Restart,
		bits:       c.BloomBits,
	}
}

// Add lays an entry down, whose key rises: the bytes that are ready by that.
func (m *Maker) Add(e api.Entry) ([]byte, api.Errno) {
	if m.ended {
		return nil, api.ErrTableForm
	}
	if err := m.lay(e); err != api.OK {
		return nil, err
	}
	m.meta = counted(m.meta, e)
	if m.bits > 0 {
		m.keys = append(m.keys, e.Key)
	}
	if m.Size() < m.blockBytes {
		return nil, api.OK
	}
	return m.endBlock(), api.OK
}

// End ends the table: the bytes that are left.
func (m *Maker) End() ([]byte, api.Errno) {
	if m.ended {
		return nil, api.ErrTableForm
	}
	if m.meta.Entries == 0 {
		return nil, api.ErrTableEmpty
	}
	answered := len(m.laid)
	if m.Size() > noEntries {
		m.endBlock()
	}
	index, filter := m.index.Bytes(), bloom.Make(m.keys, m.bits)
	foot := footOf(len(m.laid), len(index), len(filter), m.meta)
	whole := slices.Concat(m.laid, index, filter, foot)
	whole = append(whole, sumOf(whole)...)
	m.meta.Bytes = len(whole)
	m.ended = true
	// What is asked from now on is the meta alone.
	m.index, m.keys, m.laid = nil, nil, nil
	return slices.Clone(whole[answered:]), api.OK
}

// Weight tells the weight of its entries by now.
func (m *Maker) Weight() int { return m.meta.Weight }

// Meta tells what is known of the table by now; its Number is 0.
func (m *Maker) Meta() api.Table { return m.meta }

// lay lays an entry into the block under way.
func (m *Maker) lay(e api.Entry) api.Errno {
	// A block knows its own entries alone: whether a key rises from block to block is asked here.
	if e.Key <= m.meta.Greatest {
		return whyNot(e)
	}
	return m.Maker.Add(e)
}

// whyNot tells the error of an entry whose key doesn't rise. That it can't be written comes first: a block without entries refuses it for nothing else.
func whyNot(e api.Entry) api.Errno {
	if err := block.NewMaker(1).Add(e); err != api.OK {
		return err
	}
	return api.ErrTableOrder
}

// endBlock ends the block under way, and tells its bytes.
func (m *Maker) endBlock() []byte {
	b := m.Bytes()
	m.index.Add(indexEntry(m.meta.Greatest, len(m.laid), len(b)))
	m.laid = append(m.laid, b...)
	m.meta.Bytes = len(m.laid)
	m.Maker = block.NewMaker(m.restart)
	return b
}
