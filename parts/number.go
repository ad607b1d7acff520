package parts

// highestFirst is the number that bytes make, the highest of them first.
func highestFirst(bytes string) uint32 {
	var n uint32
	for _, b := range []byte(bytes) {
		n = n<<8 | uint32(b)
	}
	return n
}

// lowestFirst is the number that bytes make, the lowest of them first.
func lowestFirst(bytes string) uint32 {
	var n uint32
	for i, b := range []byte(bytes) {
		n |= uint32(b) << (8 * i)
	}
	return n
}

// putHighestFirst makes bytes those of a number, the highest of them first.
func putHighestFirst(bytes []byte, n uint32) {
	for i := range bytes {
		bytes[len(bytes)-1-i] = byte(n >> (8 * i))
	}
}

// putLowestFirst makes bytes those of a number, the lowest of them first.
func putLowestFirst(bytes []byte, n uint32) {
	for i := range bytes {
		bytes[i] = byte(n >> (8 * i))
	}
}

// isWithin tells whether a number is not too great for so many bytes.
func isWithin(n uint64, width int) bool {
	return n>>(8*width) == 0
}

// sumOf is the sum of bytes by a hidden part of so many bytes.
func sumOf(bytes string, width int) uint32 {
	lowest := uint32(1)<<(8*width) - 1
	var sum uint32
	for _, b := range []byte(bytes) {
		sum = (sum*31 + uint32(b)) & lowest
	}
	return sum
}
