package crate

const (
	endOfBlock    = 256
	mostLetters   = 286
	mostDistances = 30
)

// These three of the code for lengths stand for several lengths.
const (
	lastAgain = iota + 16
	fewNoughts
	manyNoughts
	lengthKinds
)

// lengthOrder is the order in which the lengths of the code for lengths come.
var lengthOrder = [lengthKinds]int{16, 17, 18, 0, 8, 7, 9, 6, 10, 5, 11, 4, 12, 3, 13, 2, 14, 1, 15}

// blockCodes are the two codes of a block that is not plain.
type blockCodes struct {
	letters, distances code
}

func fixedCodes() *blockCodes {
	var letters, distances []int
	letters = appendTimes(letters, 8, 144)
	letters = appendTimes(letters, 9, 112)
	letters = appendTimes(letters, 7, 24)
	letters = appendTimes(letters, 8, 8)
	distances = appendTimes(distances, 5, 32)
	return &blockCodes{newCode(letters), newCode(distances)}
}

// ownCodes takes the codes at the head of an OWN block; false if they are wrong.
func ownCodes(r *bitReader) (*blockCodes, bool) {
	letters := r.number(5) + 257
	distances := r.number(5) + 1
	given := r.number(4) + 4
	if letters > mostLetters || distances > mostDistances {
		return nil, false
	}
	lengthCode := takeLengthCode(r, given)
	if r.ended || !lengthCode.isFull() {
		return nil, false
	}
	lengths, ok := takeLengths(r, &lengthCode, letters+distances)
	if !ok || lengths[endOfBlock] == 0 {
		return nil, false
	}
	codes := &blockCodes{newCode(lengths[:letters]), newCode(lengths[letters:])}
	return codes, codes.letters.isFull() && codes.distances.servesDistances()
}

func takeLengthCode(r *bitReader, given int) code {
	lengths := make([]int, lengthKinds)
	for i := range given {
		lengths[lengthOrder[i]] = r.number(3)
	}
	return newCode(lengths)
}

// takeLengths takes a list of just so many lengths; false if it is wrong.
func takeLengths(r *bitReader, c *code, want int) ([]int, bool) {
	lengths := make([]int, 0, want)
	for len(lengths) < want {
		kind, ok := c.next(r)
		if !ok || kind == lastAgain && len(lengths) == 0 {
			return nil, false
		}
		length, times := kind, 1
		switch kind {
		case lastAgain:
			length, times = lengths[len(lengths)-1], 3+r.number(2)
		case fewNoughts:
			length, times = 0, 3+r.number(3)
		case manyNoughts:
			length, times = 0, 11+r.number(7)
		}
		if r.ended || times > want-len(lengths) {
			return nil, false
		}
		lengths = appendTimes(lengths, length, times)
	}
	return lengths, true
}

func appendTimes(list []int, value, times int) []int {
	for range times {
		list = append(list, value)
	}
	return list
}
