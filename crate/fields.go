package crate

import "math"

const (
	endMark          = "PK\x05\x06"
	wideEndMark      = "PK\x06\x06"
	wideEndPlaceMark = "PK\x06\x07"
	entryMark        = "PK\x01\x02"
	headerMark       = "PK\x03\x04"
	laterMark        = "PK\x07\x08"
)

// elsewhere is what four bytes say whose number stands in a wider field.
const elsewhere = math.MaxUint32

// fieldReader takes fields from bytes, one behind the other. Once a field
// reaches beyond them, it and all behind it are empty and short is true, so
// that a caller who needs several fields may ask once, behind the last of them.
type fieldReader struct {
	rest  string
	short bool
}

func (r *fieldReader) take(n int) string {
	if n > len(r.rest) {
		r.rest, r.short = "", true
		return ""
	}
	field := r.rest[:n]
	r.rest = r.rest[n:]
	return field
}

// number takes a number of at most 8 bytes, the lowest first.
func (r *fieldReader) number(size int) int {
	field := r.take(size)
	sum := uint64(0)
	for i := range len(field) {
		sum |= uint64(field[i]) << (8 * i)
	}
	return int(min(sum, math.MaxInt64))
}
