package codec

// sumSteps[x] is what four steps of the division make of the bits x: the polynomial's bits stand turned round (0x82F63B78), since the lowest bit of a byte goes first.
var sumSteps = [16]uint32{
	0x00000000, 0x105EC76F, 0x20BD8EDE, 0x30E349B1,
	0x417B1DBC, 0x5125DAD3, 0x61C69362, 0x7198540D,
	0x82F63B78, 0x92A8FC17, 0xA24BB5A6, 0xB21572C9,
	0xC38D26C4, 0xD3D3E1AB, 0xE330A81A, 0xF36E6F75,
}

// Sum tells the checksum of bytes.
func Sum(b []byte) uint32 {
	s := ^uint32(0)
	for _, c := range b {
		s ^= uint32(c)
		s = s>>4 ^ sumSteps[s&15]
		s = s>>4 ^ sumSteps[s&15]
	}
	return ^s
}

// appendSum may lay its bytes in b's spare room: b is the caller's own.
func appendSum(b []byte, s uint32) []byte {
	return append(b, byte(s), byte(s>>8), byte(s>>16), byte(s>>24))
}

// laidSum reads what appendSum lays, of four bytes.
func laidSum(b []byte) uint32 {
	return uint32(b[0]) | uint32(b[1])<<8 | uint32(b[2])<<16 | uint32(b[3])<<24
}
