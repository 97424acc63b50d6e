package crate

const (
	endSize          = 22 // without the bytes behind it
	mostBehindEnd    = 100
	wideEndSize      = 56
	wideEndRest      = 44 // what PK 6 6 says of its own size
	wideEndPlaceSize = 20
	countElsewhere   = 1<<16 - 1
)

// directory is where the entries lie, and how many they are.
type directory struct {
	count, size, place int
	end                int // where it must end
}

// liesAsSaid asks no sum, which could be more than a number can hold.
func (d directory) liesAsSaid() bool {
	return d.place <= d.end && d.size == d.end-d.place
}

// ending is what the end of an archive says, or PK 6 6 in its stead.
type ending struct {
	directory
	inOnePiece bool // there is no other disk, and the two counts are the same
}

// findDirectory tells what an archive's end says of its directory.
func findDirectory(archive string) (directory, Errno) {
	place, ok := findEnd(archive)
	if !ok {
		return directory{}, ErrEnd
	}
	end := readEnd(archive, place)
	inOnePiece := end.inOnePiece
	if end.isElsewhere() {
		end, ok = readWideEnd(archive[:place])
		if !ok {
			return directory{}, ErrEnd
		}
		inOnePiece = inOnePiece && end.inOnePiece
	}
	if !inOnePiece {
		return directory{}, ErrDisk
	}
	return end.directory, OK
}

// findEnd tells where the last end begins; false if there is none.
func findEnd(archive string) (int, bool) {
	for behind := range mostBehindEnd + 1 {
		place := len(archive) - behind - endSize
		if place < 0 {
			break
		}
		r := fieldReader{rest: archive[place:]}
		mark := r.take(len(endMark))
		r.take(endSize - len(endMark) - 2)
		if mark == endMark && r.number(2) == behind {
			return place, true
		}
	}
	return 0, false
}

func readEnd(archive string, place int) ending {
	r := fieldReader{rest: archive[place+len(endMark):]}
	end := takeEnding(&r, 2, 2, 4)
	end.end = place
	return end
}

// takeEnding takes what the end and PK 6 6 have in common; they differ in how
// many bytes the fields have.
func takeEnding(r *fieldReader, diskBytes, countBytes, sizeBytes int) ending {
	disk, otherDisk := r.number(diskBytes), r.number(diskBytes)
	otherCount, count := r.number(countBytes), r.number(countBytes)
	size, place := r.number(sizeBytes), r.number(sizeBytes)
	return ending{
		directory:  directory{count: count, size: size, place: place},
		inOnePiece: disk == 0 && otherDisk == 0 && count == otherCount,
	}
}

// isElsewhere tells whether an end, not a wide one, leaves its numbers to PK 6 6.
func (e ending) isElsewhere() bool {
	return e.count == countElsewhere || e.size == elsewhere || e.place == elsewhere
}

// readWideEnd reads PK 6 6 and PK 6 7, which must be the last of the bytes
// ahead of the end; false if they are not there.
func readWideEnd(ahead string) (ending, bool) {
	place := len(ahead) - wideEndPlaceSize - wideEndSize
	if place < 0 {
		return ending{}, false
	}
	r := fieldReader{rest: ahead[place:]}
	mark, rest := r.take(len(wideEndMark)), r.number(8)
	r.take(4) // versions
	end := takeEnding(&r, 4, 8, 8)
	end.end = place
	placeMark, disk := r.take(len(wideEndPlaceMark)), r.number(4)
	placeSaid, disks := r.number(8), r.number(4)
	end.inOnePiece = end.inOnePiece && disk == 0 && disks == 1
	there := mark == wideEndMark && rest == wideEndRest
	return end, there && placeMark == wideEndPlaceMark && placeSaid == place
}
