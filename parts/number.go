package parts

// highestFirst is the number that bytes make, the highest of them first.
func highestFirst(bytes string) uint32 {
	var n uint32
	for _, b := range []byte(bytes) {
		n = n<<8 | uint32(b)
	}
	return n
}

// lowestFirst is the number that bytes make, the lowest of them first.
func lowestFirst(bytes string) uint32 {
	var n uint32
	for i, b := range []byte(bytes) {
		n |= uint32(b) << (8 * i)
	}
	return n
}

// sumOf is the sum of bytes by a hidden part of so many bytes.
func sumOf(bytes string, width int) uint32 {
	lowest := uint32(1)<<(8*width) - 1
	var sum uint32
	for _, b := range []byte(bytes) {
		sum = (sum*31 + uint32(b)) & lowest
	}
	return sum
}
