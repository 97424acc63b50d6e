package crate_test

import (
	"math"
	"strings"
	"testing"

	"crate/crate"
)

// abEnd has the letters a (0), b (10) and 256 (11).
func abEnd() []int {
	return lengthsOf(257, map[int]int{'a': 1, 'b': 2, 256: 2})
}

// abCopyEnd has the letters a (00), b (01), 256 (10) and 257 (11).
func abCopyEnd() []int {
	return lengthsOf(258, map[int]int{'a': 2, 'b': 2, 256: 2, 257: 2})
}

func TestInflateOwn(t *testing.T) {
	p := (&packer{}).own(lastBlock, abEnd(), []int{0}).code(2, 2).code(0, 1).code(2, 2).code(3, 2)
	gives(t, p.String(), "bab")
	p = (&packer{}).own(lastBlock, abEnd(), []int{0}).code(3, 2)
	gives(t, p.String(), "")
	// The longest lists that there may be.
	letters := lengthsOf(286, map[int]int{'a': 2, 256: 2, 284: 2, 285: 2})
	distances := lengthsOf(30, map[int]int{0: 1, 29: 1})
	p = (&packer{}).own(lastBlock, letters, distances).code(0, 2).code(3, 2).code(0, 1).code(2, 2).number(31, 5).code(0, 1).code(1, 2)
	gives(t, p.String(), strings.Repeat("a", 1+258+258))
}

// TestInflateOwnLongCodes has codes of each length from 1 to 15.
func TestInflateOwnLongCodes(t *testing.T) {
	letters := lengthsOf(257, map[int]int{256: 15})
	for length := 1; length <= 15; length++ {
		letters['a'+15-length] = length // the order of the lengths, not that of the numbers
	}
	p := (&packer{}).own(lastBlock, letters, []int{0})
	want := ""
	for length := 1; length <= 15; length++ {
		p.code(1<<length-2, length)
		want += string(rune('a' + 15 - length))
	}
	gives(t, p.code(1<<15-1, 15).String(), want)
}

func TestInflateOwnTooManyLengths(t *testing.T) {
	list := func(letters, distances int) string {
		return (&packer{}).own(lastBlock,
			lengthsOf(letters, map[int]int{'a': 1, 256: 1}), lengthsOf(distances, nil)).code(0, 1).code(1, 1).String()
	}
	gives(t, list(257, 1), "a")
	gives(t, list(286, 1), "a")
	gives(t, list(257, 30), "a")
	gives(t, list(286, 30), "a")
	for _, packed := range []string{list(287, 1), list(288, 1), list(257, 31), list(257, 32), list(288, 32)} {
		refuses(t, packed, 9, crate.ErrData)
	}
}

// TestInflateOwnLettersNotFull: behind each list comes what would be the
// block's end, if that list were let through.
func TestInflateOwnLettersNotFull(t *testing.T) {
	for _, c := range []struct {
		not0      map[int]int
		end, bits int
	}{
		{map[int]int{256: 1}, 0, 1},
		{map[int]int{256: 2}, 0, 2},
		{map[int]int{256: 15}, 0, 15},
		{map[int]int{'a': 1, 256: 2}, 2, 2},
		{map[int]int{'a': 1, 'b': 2, 'c': 3, 256: 4}, 14, 4},
		{map[int]int{'a': 2, 'b': 2, 256: 2}, 2, 2},
		{map[int]int{256: 1, 'a': 2, 'b': 2, 'c': 2}, 0, 1},
		{map[int]int{256: 1, 'a': 2, 'b': 2, 'c': 15}, 0, 1},
		{map[int]int{256: 1, 'a': 2, 'b': 2, 'c': 2, 'd': 2, 'e': 2, 'f': 3}, 0, 1},
	} {
		packed := (&packer{}).own(lastBlock, lengthsOf(257, c.not0), []int{1, 1}).code(c.end, c.bits).String()
		if given, taken, e := crate.Inflate(packed, math.MaxInt); given != "" || taken != 0 || e != crate.ErrData {
			t.Errorf("letters %v: %q, %d, %d", c.not0, given, taken, e)
		}
	}
}

func TestInflateOwnEndHasNoCode(t *testing.T) {
	for _, not0 := range []map[int]int{{}, {'a': 1, 'b': 1}, {'a': 1}, {'a': 2, 'b': 2, 'c': 2, 255: 2}} {
		packed := (&packer{}).own(lastBlock, lengthsOf(257, not0), []int{1, 1}).number(0, 40).String()
		refuses(t, packed, math.MaxInt, crate.ErrData)
		refuses(t, packed, 0, crate.ErrData) // ahead of what it would give
	}
}

func TestInflateOwnDistancesNotFull(t *testing.T) {
	for name, distances := range map[string][]int{
		"one of two bits":       {2},
		"one of fifteen bits":   {0, 0, 15},
		"two of two bits":       {2, 2},
		"three of two bits":     {2, 2, 0, 2},
		"one bit and two bits":  {1, 2},
		"three of one bit":      {1, 1, 1},
		"one bit, one too many": {1, 2, 2, 15},
	} {
		p := (&packer{}).own(lastBlock, abEnd(), distances).code(0, 1).code(3, 2)
		if given, taken, e := crate.Inflate(p.String(), 9); given != "" || taken != 0 || e != crate.ErrData {
			t.Errorf("distances, %s: %q, %d, %d", name, given, taken, e)
		}
	}
	for _, distances := range [][]int{{0}, {0, 0, 0}, {1}, {0, 0, 1}, {1, 1}, {1, 2, 2}, {2, 2, 2, 2}} {
		p := (&packer{}).own(lastBlock, abEnd(), distances).code(0, 1).code(3, 2)
		gives(t, p.String(), "a")
	}
}

func TestInflateOwnNoDistanceOrOne(t *testing.T) {
	copied := func(distances []int, bit int) string {
		p := (&packer{}).own(lastBlock, abCopyEnd(), distances)
		p.code(0, 2).code(1, 2).code(3, 2).code(bit, 1).code(2, 2) // a, b, a copy, the end
		return p.number(0, 40).String()
	}
	for bit := range 2 {
		refuses(t, copied([]int{0}, bit), math.MaxInt, crate.ErrData)
		refuses(t, copied([]int{0, 0, 0, 0}, bit), math.MaxInt, crate.ErrData)
	}
	for distances, want := range map[int]string{1: "abbbb", 2: "ababa"} {
		list := append(make([]int, distances-1), 1)
		packed := copied(list, 0)
		if given, _, e := crate.Inflate(packed, 5); given != want || e != crate.OK {
			t.Errorf("one distance, %d: %q, %d, want %q", distances, given, e, want)
		}
		refuses(t, packed, 4, crate.ErrMuch)
		refuses(t, copied(list, 1), math.MaxInt, crate.ErrData) // that bit's 1 is no code
		refuses(t, copied(list, 1), 2, crate.ErrData)
	}
	refuses(t, copied([]int{0, 0, 1}, 0), math.MaxInt, crate.ErrData) // from 3 ahead, of 2
}

// TestInflateOwnCodeForLengthsNotFull: behind each code come lists and a block
// that would be good, if that code were let through.
func TestInflateOwnCodeForLengthsNotFull(t *testing.T) {
	for _, c := range []struct {
		name           string
		bits16, bits17 int // lengths of codes
		bits18, bits1  int
		code18, code1  int
		fine           bool
	}{
		{"full", 0, 0, 1, 1, 1, 0, true},
		{"full, with 17", 0, 2, 2, 1, 3, 0, true},
		{"two codes of two bits", 0, 0, 2, 2, 1, 0, false},
		{"one bit and two bits", 0, 0, 2, 1, 2, 0, false},
		{"one bit and seven", 0, 0, 7, 1, 64, 0, false},
		{"three codes of two bits", 0, 2, 2, 2, 2, 0, false},
		{"a code of three bits too many", 3, 2, 2, 1, 3, 0, false},
		{"a code of seven bits too many", 7, 2, 2, 1, 3, 0, false},
	} {
		p := (&packer{}).number(lastBlock, 1).number(2, 2).number(0, 5).number(0, 5).number(18-4, 4)
		p.number(c.bits16, 3).number(c.bits17, 3).number(c.bits18, 3).number(0, 3*14).number(c.bits1, 3)
		p.code(c.code1, c.bits1)
		p.code(c.code18, c.bits18).number(127, 7).code(c.code18, c.bits18).number(255-138-11, 7)
		p.code(c.code1, c.bits1).code(c.code1, c.bits1) // 256, and a distance
		packed := p.code(0, 1).code(1, 1).String()
		if _, _, e := crate.Inflate(packed, 9); (e == crate.OK) != c.fine {
			t.Errorf("a code for lengths, %s: %d", c.name, e)
		}
	}
	for _, bits := range []string{
		"1 01 00000 00000 0000 000 000 000 000", // none
		"1 01 00000 00000 0000 000 000 000 100", // one, of one bit, for 0
		"1 01 00000 00000 0000 000 000 100 000", // one, of one bit, for 18
		"1 01 00000 00000 0000 000 100 000 100", // full, but nothing is a length but 0
	} {
		for _, rest := range []string{"\x00", "\xff", "\x55"} {
			refuses(t, fromBits(bits)+strings.Repeat(rest, 80), 9, crate.ErrData)
		}
	}
}

// TestInflateOwnFewLengthsGiven: those of the code for lengths that don't
// follow are 0, and the others come in their order.
func TestInflateOwnFewLengthsGiven(t *testing.T) {
	// Up to the last but one, which is 1: 1 and 18 have one bit each.
	p := (&packer{}).number(lastBlock, 1).number(2, 2).number(0, 5).number(0, 5).number(18-4, 4)
	p.number(0, 6).number(1, 3).number(0, 3*14).number(1, 3)
	p.code(0, 1)                                                 // letter 0: 1
	p.code(1, 1).number(127, 7).code(1, 1).number(255-138-11, 7) // 255 noughts
	p.code(0, 1).code(0, 1)                                      // 256: 1; a distance: 1
	p.code(0, 1).code(0, 1).code(1, 1)
	gives(t, p.String(), "\x00\x00")
	// Up to 8: 0 has one bit, 8 and 18 two. The letters 1 to 256 have 8 bits.
	p = (&packer{}).number(lastBlock, 1).number(2, 2).number(0, 5).number(0, 5).number(5-4, 4)
	p.number(0, 6).number(2, 3).number(1, 3).number(2, 3)
	p.code(0, 1) // letter 0 has none
	for range 256 {
		p.code(2, 2)
	}
	p.code(0, 1) // no distance
	p.code(0, 8).code(254, 8).code(255, 8)
	gives(t, p.String(), "\x01\xff")
}

func TestInflateOwnRepeats(t *testing.T) {
	// Sixteen letters of 4 bits, 241 to 256, and sixteen distances of 4 bits, all by repeats.
	p := (&packer{}).ownHead(lastBlock, 257, 16)
	p.kind(18).number(127, 7).kind(18).number(103-11, 7) // 241 noughts
	p.kind(4).kind(16).number(3, 2).kind(16).number(3, 2)
	p.kind(16).number(2, 2) // the letters' last repeat goes on in the distances
	p.kind(16).number(3, 2).kind(16).number(2, 2).kind(16).number(0, 2)
	p.code(0, 4).code(14, 4).code(15, 4)
	gives(t, p.String(), "\xf1\xff")
	// 16 behind noughts gives noughts.
	p = (&packer{}).ownHead(lastBlock, 257, 1)
	p.kind(17).number(0, 3).kind(16).number(3, 2).kind(18).number(127, 7) // 3+6+138 = 147
	p.kind(18).number(107-11, 7).kind(1).kind(0).kind(1).kind(0)          // 254 and 256
	p.code(0, 1).code(1, 1)
	gives(t, p.String(), "\xfe")
}

func TestInflateOwnRepeatOfNone(t *testing.T) {
	for more := range 4 {
		// With noughts as what is repeated, or with nothing, this would be good.
		for _, times := range []int{0, 3 + more} {
			p := (&packer{}).ownHead(lastBlock, 257, 1).kind(16).number(more, 2)
			p.kind(18).number(127, 7).kind(18).number(255-138-times-11, 7)
			p.kind(1).kind(1).kind(0).code(0, 1).code(1, 1)
			refuses(t, p.String(), 9, crate.ErrData)
		}
	}
}

func TestInflateOwnListsTooLong(t *testing.T) {
	// 257 letters and 4 distances: behind 256 there is room for four.
	head := func() *packer {
		p := (&packer{}).ownHead(lastBlock, 257, 4)
		p.kind(1).kind(18).number(127, 7).kind(18).number(255-138-11, 7)
		return p.kind(1)
	}
	// What follows would be good, if what is too much were left out.
	end := func(p *packer) string { return p.code(0, 1).code(1, 1).String() }
	gives(t, end(head().kind(0).kind(0).kind(0).kind(0)), "\x00")
	gives(t, end(head().kind(17).number(1, 3)), "\x00")
	gives(t, end(head().kind(17).number(0, 3).kind(1)), "\x00")
	gives(t, end(head().kind(0).kind(16).number(0, 2)), "\x00")
	for more := 2; more < 8; more++ {
		refuses(t, end(head().kind(17).number(more, 3)), 9, crate.ErrData)
	}
	for more := range 128 {
		refuses(t, end(head().kind(18).number(more, 7)), 9, crate.ErrData)
	}
	for more := 1; more < 4; more++ {
		refuses(t, end(head().kind(0).kind(16).number(more, 2)), 9, crate.ErrData)
	}
}
