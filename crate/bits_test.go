package crate_test

import "strings"

// packer writes packed bytes bit by bit, for the tests that need blocks which
// no ordinary packer would make.
type packer struct{ bits []byte }

// number writes a number's bits, the lowest first.
func (p *packer) number(value, bits int) *packer {
	for i := range bits {
		p.bits = append(p.bits, byte(value>>i&1))
	}
	return p
}

// code writes a code's bits, the highest first.
func (p *packer) code(value, bits int) *packer {
	for i := range bits {
		p.bits = append(p.bits, byte(value>>(bits-1-i)&1))
	}
	return p
}

func (p *packer) String() string {
	packed := make([]byte, (len(p.bits)+7)/8)
	for i, bit := range p.bits {
		packed[i/8] |= bit << (i % 8)
	}
	return string(packed)
}

const (
	lastBlock = 1
	moreComes = 0
)

// plain writes a PLAIN block; it begins at a new byte behind its three bits.
func (p *packer) plain(last int, data string) *packer {
	p.number(last, 1).number(0, 2)
	p.number(0, (8-len(p.bits)%8)%8)
	p.number(len(data), 16).number(65535-len(data), 16)
	for i := range len(data) {
		p.number(int(data[i]), 8)
	}
	return p
}

func (p *packer) fixed(last int) *packer {
	return p.number(last, 1).number(1, 2)
}

// letter writes a letter by the code of FIXED blocks.
func (p *packer) letter(letter int) *packer {
	switch {
	case letter < 144:
		return p.code(0x30+letter, 8)
	case letter < 256:
		return p.code(0x190+letter-144, 9)
	case letter < 280:
		return p.code(letter-256, 7)
	}
	return p.code(0xc0+letter-280, 8)
}

func (p *packer) text(text string) *packer {
	for i := range len(text) {
		p.letter(int(text[i]))
	}
	return p
}

// distance writes a distance by the code of FIXED blocks.
func (p *packer) distance(distance int) *packer {
	return p.code(distance, 5)
}

// ownHead writes an OWN block up to its list of lengths. In its code for
// lengths 0 to 12 have 4 bits and 13 to 18 have 5.
func (p *packer) ownHead(last, letters, distances int) *packer {
	p.number(last, 1).number(2, 2)
	p.number(letters-257, 5).number(distances-1, 5).number(19-4, 4)
	for _, kind := range []int{16, 17, 18, 0, 8, 7, 9, 6, 10, 5, 11, 4, 12, 3, 13, 2, 14, 1, 15} {
		if kind <= 12 {
			p.number(4, 3)
		} else {
			p.number(5, 3)
		}
	}
	return p
}

// kind writes one of 0 to 18 by the code for lengths of ownHead.
func (p *packer) kind(kind int) *packer {
	if kind <= 12 {
		return p.code(kind, 4)
	}
	return p.code(26+kind-13, 5)
}

// own writes an OWN block up to the end of its lists of lengths.
func (p *packer) own(last int, letters, distances []int) *packer {
	p.ownHead(last, len(letters), len(distances))
	for _, length := range letters {
		p.kind(length)
	}
	for _, length := range distances {
		p.kind(length)
	}
	return p
}

// lengthsOf tells a list of so many lengths, all 0 but those in the map.
func lengthsOf(count int, not0 map[int]int) []int {
	lengths := make([]int, count)
	for number, length := range not0 {
		lengths[number] = length
	}
	return lengths
}

// fromBits makes bytes of bits that are written out, with spaces between.
func fromBits(text string) string {
	p := &packer{}
	for _, bit := range strings.ReplaceAll(text, " ", "") {
		p.number(int(bit-'0'), 1)
	}
	return p.String()
}
