package crate_test

import (
	"fmt"
	"hash/crc32"
	"math"
	"slices"
	"strings"
	"testing"

	"crate/crate"
)

// low writes a number's lowest bytes, the lowest first.
func low(value uint64, size int) string {
	bytes := make([]byte, size)
	for i := range bytes {
		bytes[i] = byte(value >> (8 * i))
	}
	return string(bytes)
}

// ones are the bytes of a number of which all bits are 1.
func ones(size int) string { return strings.Repeat("\xff", size) }

// put writes bytes over those at a place.
func put(bytes string, place int, with string) string {
	return bytes[:place] + with + bytes[place+len(with):]
}

// item is a file or folder from which the tests make a span and an entry.
type item struct {
	name, data       string // data: as it lies in the archive
	method, flags    int
	sum              uint32
	size             int
	maker, disk      int
	outer            uint64
	extras, remark   string // in the directory
	more             string // x bytes, ahead of the file
	gap              string // bytes ahead of the span
	wide             string // which of "size", "packed" and "place" stand in an extra
	ownExtras        bool   // extras has that one, too
	noughts          bool   // sum, packed and size are 0 ahead of the file
	packed, place    int    // said in place of what is so, if not 0
	headName         string // ahead of the file, if another one
	headFlags        int    // joined with the flags by exclusive or
	headMethod       int
	headThree, later string // in place of sum, packed and size, ahead and behind
	markless         bool   // its entry has another mark
}

// stored is a file that is not packed, or a folder.
func stored(name, data string) item {
	return item{name: name, data: data, sum: crc32.ChecksumIEEE([]byte(data)), size: len(data)}
}

// deflated is a file of the method 8, with its packed bytes.
func deflated(name, packed, data string) item {
	return item{name: name, data: packed, method: 8, sum: crc32.ChecksumIEEE([]byte(data)), size: len(data)}
}

func (it item) isWide(what string) bool {
	return slices.Contains(strings.Fields(it.wide), what)
}

func (it item) packedSaid() int {
	if it.packed != 0 {
		return it.packed
	}
	return len(it.data)
}

// narrow is a number of 4 bytes, or all bits 1 if it stands in an extra.
func (it item) narrow(what string, value int) string {
	if it.isWide(what) {
		return ones(4)
	}
	return low(uint64(value), 4)
}

func (it item) three() string {
	return low(uint64(it.sum), 4) + it.narrow("packed", it.packedSaid()) + it.narrow("size", it.size)
}

func (it item) span() string {
	name, three := it.name, it.three()
	if it.headName != "" {
		name = it.headName
	}
	if it.noughts {
		three = low(0, 12)
	}
	if it.headThree != "" {
		three = it.headThree
	}
	s := "PK\x03\x04" + low(20, 2) + low(uint64(it.flags^it.headFlags), 2) + low(uint64(it.method^it.headMethod), 2) + "TiDa" + three
	s += low(uint64(len(name)), 2) + low(uint64(len(it.more)), 2) + name + it.more + it.data
	if it.flags&8 == 0 {
		return s
	}
	if it.later != "" {
		return s + it.later
	}
	return s + "PK\x07\x08" + low(uint64(it.sum), 4) + low(uint64(it.packedSaid()), 4) + low(uint64(it.size), 4)
}

// wideNumbers are those that stand in an extra.
func (it item) wideNumbers(place int) string {
	numbers := ""
	for _, c := range []struct {
		what  string
		value int
	}{{"size", it.size}, {"packed", it.packedSaid()}, {"place", place}} {
		if it.isWide(c.what) {
			numbers += low(uint64(c.value), 8)
		}
	}
	return numbers
}

func (it item) entry(place int) string {
	if it.place != 0 {
		place = it.place
	}
	mark, extras := "PK\x01\x02", it.extras
	if it.markless {
		mark = "PK\x01\x03"
	}
	if it.wide != "" && !it.ownExtras {
		extras += extra(1, it.wideNumbers(place))
	}
	s := mark + low(uint64(it.maker), 2) + low(20, 2) + low(uint64(it.flags), 2) + low(uint64(it.method), 2) + "TiDa" + it.three()
	s += low(uint64(len(it.name)), 2) + low(uint64(len(extras)), 2) + low(uint64(len(it.remark)), 2)
	s += low(uint64(it.disk), 2) + "in" + low(it.outer, 4) + it.narrow("place", place)
	return s + it.name + extras + it.remark
}

// told is the entry that List must tell of an item whose span begins at a place.
func (it item) told(place int) crate.Entry {
	return crate.Entry{
		Name: it.name, Method: it.method, Sum: it.sum, Packed: it.packedSaid(), Size: it.size,
		Place: place + 30 + len(it.name) + len(it.more),
	}
}

func extra(kind int, bytes string) string {
	return low(uint64(kind), 2) + low(uint64(len(bytes)), 2) + bytes
}

// layout is an archive in pieces, so that a test may change one of them.
type layout struct {
	spans, directory string
	count            int
	told             []crate.Entry
}

func lay(items ...item) layout {
	var spans, directory strings.Builder
	l := layout{count: len(items)}
	for _, it := range items {
		spans.WriteString(it.gap)
		place := spans.Len()
		spans.WriteString(it.span())
		directory.WriteString(it.entry(place))
		l.told = append(l.told, it.told(place))
	}
	l.spans, l.directory = spans.String(), directory.String()
	return l
}

func (l layout) end() string {
	return endOf(l.count, len(l.directory), len(l.spans))
}

func (l layout) archive() string {
	return l.spans + l.directory + l.end()
}

func endOf(count, size, place int) string {
	return "PK\x05\x06" + low(0, 4) + low(uint64(count), 2) + low(uint64(count), 2) + low(uint64(size), 4) + low(uint64(place), 4) + low(0, 2)
}

// wideEnd is PK 6 6.
func (l layout) wideEnd() string {
	return "PK\x06\x06" + low(44, 8) + low(45, 2) + low(45, 2) + low(0, 8) + low(uint64(l.count), 8) + low(uint64(l.count), 8) + low(uint64(len(l.directory)), 8) + low(uint64(len(l.spans)), 8)
}

// wideEndPlace is PK 6 7.
func (l layout) wideEndPlace() string {
	return "PK\x06\x07" + low(0, 4) + low(uint64(len(l.spans+l.directory)), 8) + low(1, 4)
}

// wideArchive is one whose end has all bits 1 in its second count, size and place.
func (l layout) wideArchive() string {
	return l.spans + l.directory + l.wideEnd() + l.wideEndPlace() + "PK\x05\x06" + low(0, 4) + ones(12) + low(0, 2)
}

func archiveOf(items ...item) string { return lay(items...).archive() }

var anything = crate.Quota{Entries: math.MaxInt, Names: math.MaxInt, Bytes: math.MaxInt}

// lists: List must tell just these entries.
func lists(t *testing.T, what, archive string, q crate.Quota, want []crate.Entry) {
	t.Helper()
	if got, e := crate.List(archive, q); e != crate.OK || !slices.Equal(got, want) {
		t.Errorf("%s: List = %.300s, %d, want %.300s", what, fmt.Sprint(got), e, fmt.Sprint(want))
	}
}

// listsAll: List must tell the items' entries.
func listsAll(t *testing.T, what string, items ...item) {
	t.Helper()
	l := lay(items...)
	lists(t, what, l.archive(), anything, l.told)
}

// refusesList: List must answer this error, and nothing else.
func refusesList(t *testing.T, what, archive string, q crate.Quota, want crate.Errno) {
	t.Helper()
	if got, e := crate.List(archive, q); e != want || len(got) != 0 {
		t.Errorf("%s: List = %.300s, %d, want %d", what, fmt.Sprint(got), e, want)
	}
}

// refusesItems: List must answer this error for an archive of these items.
func refusesItems(t *testing.T, what string, want crate.Errno, items ...item) {
	t.Helper()
	refusesList(t, what, archiveOf(items...), anything, want)
}
