package crate

import (
	"cmp"
	"slices"
)

// span is where all bytes of an entry lie that are not in the directory.
type span struct{ begin, end int }

const noNumbers = "\x00\x00\x00\x00\x00\x00\x00\x00\x00\x00\x00\x00"

// findSpan reads what stands ahead of a file, and perhaps behind it, in the
// bytes ahead of the directory; false if that is not as the directory says.
func (l *listed) findSpan(ahead string) bool {
	r := fieldReader{rest: ahead}
	r.take(l.span.begin)
	same := l.takeHeader(&r)
	l.Place = len(ahead) - len(r.rest)
	r.take(l.Packed)
	if l.isLater() {
		same = l.takeLater(&r) && same
	}
	l.span.end = len(ahead) - len(r.rest)
	return same && !r.short
}

func (l *listed) isLater() bool {
	return l.flags&laterFlag != 0
}

// takeHeader takes all that stands ahead of a file's bytes; false if it is not
// as the directory says.
func (l *listed) takeHeader(r *fieldReader) bool {
	mark := r.take(len(headerMark))
	r.take(2) // version
	flags, method := r.number(2), r.number(2)
	r.take(4) // time, date
	three := r.take(12)
	nameSize, extrasSize := r.number(2), r.number(2)
	name := r.take(nameSize)
	r.take(extrasSize)
	if mark != headerMark || flags != l.flags || method != l.Method || name != l.Name {
		return false
	}
	return three == l.three || l.isLater() && three == noNumbers
}

// takeLater takes what stands behind a file's bytes; false if these are not
// the numbers that are meant, as far as they have room there.
func (l *listed) takeLater(r *fieldReader) bool {
	mark := r.take(len(laterMark))
	sum, packed, size := r.number(4), r.number(4), r.number(4)
	return mark == laterMark && uint32(sum) == l.Sum &&
		uint32(packed) == uint32(l.Packed) && uint32(size) == uint32(l.Size)
}

// anyOverlap tells whether two spans have a byte in common. None is empty, so
// that of spans in the order of their beginnings the neighbours tell.
func anyOverlap(list []listed) bool {
	spans := make([]span, 0, len(list))
	for _, l := range list {
		spans = append(spans, l.span)
	}
	slices.SortFunc(spans, func(a, b span) int { return cmp.Compare(a.begin, b.begin) })
	for i := 1; i < len(spans); i++ {
		if spans[i].begin < spans[i-1].end {
			return true
		}
	}
	return false
}
