package crate

// The ways in which a file's bytes may lie in an archive.
const (
	plainFile  = 0
	packedFile = 8
)

const (
	laterFlag    = 8 // sum, packed and size stand behind the file
	knownFlags   = 2 | 4 | laterFlag | 2048
	wideExtra    = 1
	mostMeant    = 1 << 40
	linkMaker    = 3
	linkOuterTop = 0xA
)

// listed is an entry, with what else the directory says of it. Its Place is
// known only once its span is.
type listed struct {
	Entry
	maker, flags, disk, outer int
	three                     string // sum, packed and size, in the directory's own bytes
	span                      span
}

// takeAll takes as many entries as there must be, and finds the first fault.
func (d directory) takeAll(archive string) ([]listed, Errno) {
	r := fieldReader{rest: archive[d.place:d.end]}
	// What the count says may be far more than there is: the list grows as entries are found.
	var list []listed
	for range d.count {
		l, ok := takeListed(&r)
		if !ok {
			return nil, ErrDirectory
		}
		if e := l.fault(); e != OK {
			return nil, e
		}
		list = append(list, l)
	}
	if r.rest != "" {
		return nil, ErrDirectory
	}
	return list, OK
}

// takeListed takes an entry; false if it does not lie as it must.
func takeListed(r *fieldReader) (listed, bool) {
	var l listed
	mark := r.take(len(entryMark))
	l.maker = r.number(2)
	r.take(2) // version
	l.flags, l.Method = r.number(2), r.number(2)
	r.take(4) // time, date
	l.three = r.take(12)
	nameSize, extrasSize, remarkSize := r.number(2), r.number(2), r.number(2)
	l.disk = r.number(2)
	r.take(2) // inner
	l.outer, l.span.begin = r.number(4), r.number(4)
	l.Name = r.take(nameSize)
	extras := r.take(extrasSize)
	r.take(remarkSize)
	if r.short || mark != entryMark {
		return listed{}, false
	}
	three := fieldReader{rest: l.three}
	l.Sum, l.Packed, l.Size = uint32(three.number(4)), three.number(4), three.number(4)
	// Not within the return: the language leaves open whether that reads l ahead of the call.
	ok := takeMeant(extras, &l.Size, &l.Packed, &l.span.begin)
	return l, ok
}

// takeMeant puts in place of each number that is elsewhere the one that is
// meant; false if extras do not lie as they must, or such a number is missing
// or too great.
func takeMeant(extras string, numbers ...*int) bool {
	wide, ok := findWideExtra(extras)
	if !ok {
		return false
	}
	r := fieldReader{rest: wide}
	for _, number := range numbers {
		if *number == elsewhere {
			*number = r.number(8)
			if r.short || *number > mostMeant {
				return false
			}
		}
	}
	return true
}

// findWideExtra tells the bytes of the first extra that holds wide numbers, or
// none; false if any of the extras does not lie as it must.
func findWideExtra(extras string) (string, bool) {
	r := fieldReader{rest: extras}
	wide, found := "", false
	for r.rest != "" {
		kind, size := r.number(2), r.number(2)
		field := r.take(size)
		if kind == wideExtra && !found {
			wide, found = field, true
		}
	}
	return wide, !r.short
}

// fault tells the first thing that is wrong in what an entry says.
func (l *listed) fault() Errno {
	switch {
	case l.disk != 0:
		return ErrDisk
	case l.flags&^knownFlags != 0 || l.Method != plainFile && l.Method != packedFile || l.isLink():
		return ErrMethod
	case !isName(l.Name):
		return ErrName
	case isFolder(l.Name) && (l.Size != 0 || l.Packed != 0):
		return ErrSize
	case l.Method == plainFile && l.Size != l.Packed:
		return ErrSize
	}
	return OK
}

func (l *listed) isLink() bool {
	return l.maker>>8 == linkMaker && l.outer>>28 == linkOuterTop
}
