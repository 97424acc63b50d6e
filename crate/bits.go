package crate

// bitReader takes bits from bytes, the lowest of each byte first. Behind the
// last byte every bit is 0 and ended is true, so that a caller who needs
// several numbers may ask once, behind the last of them.
type bitReader struct {
	bytes string
	taken int  // how many bytes a bit was taken of
	rest  byte // the bits of the last of these that are not yet taken
	left  int  // how many these are
	ended bool
}

func (r *bitReader) bit() int {
	if r.left == 0 {
		if r.taken == len(r.bytes) {
			r.ended = true
			return 0
		}
		r.rest, r.left = r.bytes[r.taken], 8
		r.taken++
	}
	bit := int(r.rest & 1)
	r.rest >>= 1
	r.left--
	return bit
}

// number takes a number of so many bits, the lowest first.
func (r *bitReader) number(bits int) int {
	sum := 0
	for i := range bits {
		sum |= r.bit() << i
	}
	return sum
}

func (r *bitReader) passOverRestOfByte() {
	r.left = 0
}

// bytesLeft tells how many whole bytes are not yet touched.
func (r *bitReader) bytesLeft() int {
	return len(r.bytes) - r.taken
}

// wholeBytes takes n bytes; n is at most bytesLeft, and no byte is begun.
func (r *bitReader) wholeBytes(n int) string {
	from := r.taken
	r.taken += n
	return r.bytes[from:r.taken]
}
