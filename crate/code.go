package crate

// longestCode is how many bits a code may have.
const longestCode = 15

// code is a code by lengths. Codes of one length follow each other, so that
// how many there are of each length says which bits belong to which place.
type code struct {
	count   [longestCode + 1]int // by length; no code has the length 0
	numbers []int                // in the order of their codes
}

// newCode makes the code in which each number has the length at its index.
func newCode(lengths []int) code {
	c := code{}
	for _, length := range lengths {
		c.count[length]++
	}
	inCode := len(lengths) - c.count[0]
	c.count[0] = 0
	var place [longestCode + 1]int
	for length := 1; length < longestCode; length++ {
		place[length+1] = place[length] + c.count[length]
	}
	c.numbers = make([]int, inCode)
	for number, length := range lengths {
		if length > 0 {
			c.numbers[place[length]] = number
			place[length]++
		}
	}
	return c
}

// isFull tells whether there are neither more codes nor less than there may be.
func (c *code) isFull() bool {
	free := 1
	for _, count := range c.count[1:] {
		// Once below 0 it stays there: more codes never make room.
		free = 2*free - count
	}
	return free == 0
}

// servesDistances tells whether this may be a code of distances, which need
// not be full if it has no code at all, or one of one bit.
func (c *code) servesDistances() bool {
	if len(c.numbers) == 0 {
		return true
	}
	return len(c.numbers) == 1 && c.count[1] == 1 || c.isFull()
}

// next takes a code and tells its number; false if the bits are no code.
func (c *code) next(r *bitReader) (int, bool) {
	bits, first, place := 0, 0, 0
	for _, count := range c.count[1:] {
		bits = bits<<1 | r.bit()
		if r.ended {
			return 0, false
		}
		if bits-first < count {
			return c.numbers[place+bits-first], true
		}
		place += count
		first = (first + count) << 1
	}
	return 0, false
}
