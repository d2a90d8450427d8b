// Package wide has numbers as bytes of a fixed width, the highest first.
package wide

// Put: b, and behind it a number's lowest bytes, so many (b's spare room may be used).
func Put(b []byte, n uint64, width int) []byte {
	for left := width - 1; left >= 0; left-- {
		b = append(b, byte(n>>(8*left)))
	}
	return b
}

// Take: the number that bytes are (of more than eight the last eight).
func Take(b []byte) uint64 {
	var n uint64
	for _, x := range b {
		n = n<<8 | uint64(x)
	}
	return n
}
