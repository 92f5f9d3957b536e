package log

import (
	"scree/api"
	"scree/codec"
)

const (
	sumBytes  = 4             // bytes of a piece's sum, which covers all that follows them
	headBytes = sumBytes + 3  // the sum, two bytes of length, the kind
	pieceRoom = headBytes + 1 // a block that has less left takes no piece: there is no room for a byte of a record
)

// Kinds of pieces.
const (
	kindWhole byte = iota + 1
	kindFirst
	kindMiddle
	kindLast
)

// kindOf tells the kind of a piece: whether its record was begun ahead of it, and whether the record ends with it.
func kindOf(begun, ends bool) byte {
	switch {
	case begun && ends:
		return kindLast
	case begun:
		return kindMiddle
	case ends:
		return kindWhole
	}
	return kindFirst
}

// blockLeft tells how many bytes the block has left behind the first at bytes of a log; at its beginning it has all of them.
func blockLeft(at int) int { return api.LogBlock - at%api.LogBlock }

// appendPiece may lay the piece in b's spare room: b is the caller's own.
func appendPiece(b []byte, kind byte, part []byte) []byte {
	n := len(part)
	summed := append([]byte{byte(n), byte(n >> 8), kind}, part...)
	sum := codec.Sum(summed)
	b = append(b, byte(sum), byte(sum>>8), byte(sum>>16), byte(sum>>24))
	return append(b, summed...)
}

// readPiece reads the piece at at: its part, which lies in b, and whether its record ends with it; false, if Append lays no such piece there. A record that was begun goes on with it.
func readPiece(b []byte, at int, begun bool) (part []byte, ends, ok bool) {
	if at > len(b)-headBytes {
		return nil, false, false
	}
	head := b[at : at+headBytes]
	n := int(head[sumBytes]) | int(head[sumBytes+1])<<8
	kind := head[sumBytes+2]
	ends = kind == kindOf(begun, true)
	if !ends && kind != kindOf(begun, false) {
		return nil, false, false
	}
	end := at + headBytes + n
	if end > len(b) || !rightLength(n, blockLeft(at)-headBytes, begun, ends) {
		return nil, false, false
	}
	if codec.Sum(b[at+sumBytes:end]) != laidSum(head) {
		return nil, false, false
	}
	return b[at+headBytes : end], ends, true
}

// rightLength tells whether a part of n bytes may stand where its block has room for so many: one that more follows has to fill the block, and a record that was begun doesn't end with an empty part.
func rightLength(n, room int, begun, ends bool) bool {
	if !ends {
		return n == room
	}
	return n <= room && (n > 0 || !begun)
}

// laidSum reads the sum that a head begins with.
func laidSum(head []byte) uint32 {
	return uint32(head[0]) | uint32(head[1])<<8 | uint32(head[2])<<16 | uint32(head[3])<<24
}
