package frame

// fourBits is how c is turned by its lowest four bits, as these are moved out of it.
var fourBits = [16]uint32{
	0x00000000, 0x105ec76f, 0x20bd8ede, 0x30e349b1, 0x417b1dbc, 0x5125dad3, 0x61c69362, 0x7198540d,
	0x82f63b78, 0x92a8fc17, 0xa24bb5a6, 0xb21572c9, 0xc38d26c4, 0xd3d3e1ab, 0xe330a81a, 0xf36e6f75,
}

// Sum: of bytes.
func Sum(b []byte) uint32 {
	c := ^uint32(0)
	for _, x := range b {
		c ^= uint32(x)
		c = c>>4 ^ fourBits[c&15]
		c = c>>4 ^ fourBits[c&15]
	}
	return ^c
}
