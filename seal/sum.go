package seal

// quarters[i] is what four steps of the division by the polynomial 0x82F63B78 leave of i. Four bits a step and not eight: a table for eight would be longer than a table may be.
var quarters = [16]uint32{
	0x00000000, 0x105ec76f, 0x20bd8ede, 0x30e349b1,
	0x417b1dbc, 0x5125dad3, 0x61c69362, 0x7198540d,
	0x82f63b78, 0x92a8fc17, 0xa24bb5a6, 0xb21572c9,
	0xc38d26c4, 0xd3d3e1ab, 0xe330a81a, 0xf36e6f75,
}

// Sum answers the CRC-32C of b.
func Sum(b []byte) uint32 {
	s := ^uint32(0)
	for _, c := range b {
		s ^= uint32(c)
		s = s>>4 ^ quarters[s&15]
		s = s>>4 ^ quarters[s&15]
	}
	return ^s
}
