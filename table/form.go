package table

import (
	"scree/api"
	"scree/codec"
	"scree/ikey"
)

const (
	mark      = "scr1" // stands in every foot
	byteBits  = 8      // bits of a byte
	sumBytes  = 4      // bytes of a sum
	leastTail = 9      // what every table ends with: how long its foot is, the mark, the sum
)

// counted tells what is known of a table with one entry more, the greatest.
func counted(meta api.Table, e api.Entry) api.Table {
	if meta.Entries == 0 {
		meta.Least = e.Key
	}
	meta.Greatest = e.Key
	meta.Entries++
	meta.Weight += ikey.Weight(e)
	return meta
}

// indexEntry tells what the index says of a data block.
func indexEntry(greatest string, place, size int) api.Entry {
	val := codec.PutUint(nil, uint64(place))
	val = codec.PutUint(val, uint64(size))
	return api.Entry{Key: greatest, Val: string(val)}
}

// footOf tells the foot of a table, without the sum: that is told of all bytes ahead of it.
func footOf(index, indexBytes, filterBytes int, meta api.Table) []byte {
	var b []byte
	for _, n := range []int{index, indexBytes, filterBytes, meta.Entries, meta.Weight} {
		b = codec.PutUint(b, uint64(n))
	}
	b = codec.PutText(b, meta.Least)
	b = codec.PutText(b, meta.Greatest)
	b = append(b, byte(len(b)))
	return append(b, mark...)
}

// sumOf tells the sum of b as it is laid down: the lowest byte first.
func sumOf(b []byte) []byte {
	sum := codec.Sum(b)
	made := make([]byte, sumBytes)
	for i := range made {
		made[i] = byte(sum >> (byteBits * i))
	}
	return made
}
