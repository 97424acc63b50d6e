package crate

// blockKind is what the two bits behind a block's first say.
type blockKind int

const (
	plainBlock blockKind = iota
	fixedBlock
	ownBlock
)

const (
	firstLength    = 257 // the first letter that is a length
	lastLength     = 285
	greatestLength = 258 // what the last one means, outside of the rule
	leastLength    = 3
	leastDistance  = 1
)

// inflater unpacks blocks, one behind the other.
type inflater struct {
	in    bitReader
	given []byte
	most  int         // at least 0, and never below len(given)
	fixed *blockCodes // nil until a FIXED block needs them
}

// Inflate tells what packed bytes give, and how many bytes their blocks are:
// ErrData if something in them is wrong or missing, ErrMuch if they would give
// more than most bytes, whichever comes first.
func Inflate(bytes string, most int) (string, int, Errno) {
	f := &inflater{in: bitReader{bytes: bytes}, most: max(most, 0)}
	if e := f.blocks(); e != OK {
		return "", 0, e
	}
	return string(f.given), f.in.taken, OK
}

func (f *inflater) blocks() Errno {
	for {
		last := f.in.bit() == 1
		kind := blockKind(f.in.number(2))
		if f.in.ended {
			return ErrData
		}
		if e := f.block(kind); e != OK {
			return e
		}
		if last {
			return OK
		}
	}
}

func (f *inflater) block(kind blockKind) Errno {
	switch kind {
	case plainBlock:
		return f.plain()
	case fixedBlock:
		if f.fixed == nil {
			f.fixed = fixedCodes()
		}
		return f.coded(f.fixed)
	case ownBlock:
		codes, ok := ownCodes(&f.in)
		if !ok {
			return ErrData
		}
		return f.coded(codes)
	}
	return ErrData
}

func (f *inflater) room() int {
	return f.most - len(f.given)
}

func (f *inflater) plain() Errno {
	f.in.passOverRestOfByte()
	n := f.in.number(16)
	m := f.in.number(16)
	if f.in.ended || m != 65535-n {
		return ErrData
	}
	count := min(n, f.in.bytesLeft(), f.room())
	bytes := f.in.wholeBytes(count)
	f.given = append(f.given, bytes...)
	switch {
	case count == n:
		return OK
	case f.in.bytesLeft() == 0:
		// A byte that is not there can't be one too many.
		return ErrData
	}
	return ErrMuch
}

// coded gives what the letters of a block mean, up to its end.
func (f *inflater) coded(codes *blockCodes) Errno {
	for {
		letter, ok := codes.letters.next(&f.in)
		if !ok {
			return ErrData
		}
		if letter == endOfBlock {
			return OK
		}
		var e Errno
		if letter < endOfBlock {
			e = f.single(byte(letter))
		} else {
			e = f.earlier(letter, &codes.distances)
		}
		if e != OK {
			return e
		}
	}
}

func (f *inflater) single(b byte) Errno {
	if f.room() == 0 {
		return ErrMuch
	}
	f.given = append(f.given, b)
	return OK
}

// earlier takes what belongs to a letter that is a length, and gives the copy.
func (f *inflater) earlier(letter int, distances *code) Errno {
	if letter > lastLength {
		return ErrData
	}
	length := greatestLength
	if letter < lastLength {
		length = leastLength + f.ranged(letter-firstLength, 4)
	}
	number, ok := distances.next(&f.in)
	if !ok || number >= mostDistances {
		return ErrData
	}
	distance := leastDistance + f.ranged(number, 2)
	if f.in.ended || distance > len(f.given) {
		return ErrData
	}
	return f.copyFrom(len(f.given)-distance, length)
}

// ranged tells how far above the least value an index leads. Lengths and
// distances share this rule: the first two groups of indexes have no bits
// behind them, each later group has one bit more than the group ahead.
func (f *inflater) ranged(index, group int) int {
	if index < 2*group {
		return index
	}
	bits := index/group - 1
	return (group+index%group)<<bits + f.in.number(bits)
}

// copyFrom gives length bytes more, from a place in what was given so far; the
// copy may reach into what it gives itself.
func (f *inflater) copyFrom(place, length int) Errno {
	allowed := min(length, f.room())
	end := len(f.given) + allowed
	for len(f.given) < end {
		// What is there from place on repeats itself, so each round may take all of it.
		count := min(end-len(f.given), len(f.given)-place)
		f.given = append(f.given, f.given[place:place+count]...)
	}
	if allowed < length {
		return ErrMuch
	}
	return OK
}
