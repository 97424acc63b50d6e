package crate

// sumPattern is joined with the sum whenever a bit 1 goes out of it.
const sumPattern = 0xEDB88320

// Sum tells the CRC-32 of some bytes.
func Sum(bytes string) uint32 {
	table := halfByteSums()
	sum := ^uint32(0)
	for i := range len(bytes) {
		sum ^= uint32(bytes[i])
		sum = sum>>4 ^ table[sum&15]
		sum = sum>>4 ^ table[sum&15]
	}
	return ^sum
}

// halfByteSums tells what four bits that go out join with the sum: taking four
// at one time, Sum makes two steps for each byte where it would need eight.
func halfByteSums() [16]uint32 {
	var table [16]uint32
	for i := range table {
		sum := uint32(i)
		for range 4 {
			out := sum & 1
			sum >>= 1
			if out == 1 {
				sum ^= sumPattern
			}
		}
		table[i] = sum
	}
	return table
}
