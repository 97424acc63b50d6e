package crate_test

import (
	"slices"
	"strings"
	"testing"

	"crate/crate"
)

// draft is an archive in which several things can be made wrong at one time.
type draft struct {
	items         []item
	overlap       bool // the last two share a byte
	trailing, gap string
	disk          string
	cut           bool
	q             crate.Quota
}

// soundDraft has nothing wrong: each fault below finds items of its own in it.
func soundDraft() draft {
	d := draft{disk: low(0, 2), q: anything}
	for _, name := range []string{"first", "second", "one", "other", "head", "packed", "packed too", "plain", "touched P", "touching"} {
		d.items = append(d.items, stored(name, name))
	}
	for i := firstPacked; i <= secondPacked; i++ {
		text := d.items[i].name
		d.items[i] = deflated(text, (&packer{}).fixed(lastBlock).text(text).letter(256).String(), text)
	}
	return d
}

// Those that List finds nothing wrong with, whatever their bytes give.
const (
	firstPacked = iota + 5
	secondPacked
	plainBehind
)

func (d draft) archive() string {
	l := lay(d.items...)
	if d.overlap {
		l = d.overlapped()
	}
	l.directory += d.trailing
	archive := l.spans + l.directory + d.gap + put(l.end(), 4, d.disk)
	if d.cut {
		return archive[:len(archive)-1]
	}
	return archive
}

// overlapped lays the last item so that it begins with the last byte of the
// one ahead, which is a P.
func (d draft) overlapped() layout {
	last := len(d.items) - 1
	l := lay(d.items[:last]...)
	place := len(l.spans) - 1
	l.spans += d.items[last].span()[1:]
	l.directory += d.items[last].entry(place)
	l.count++
	return l
}

// fault is a thing that can be wrong, and what must be told of it.
type fault struct {
	name string
	e    crate.Errno
	make func(d *draft)
}

// faults are all that List tells, in the order in which they are told.
var faults = []fault{
	{"no end", crate.ErrEnd, func(d *draft) { d.cut = true }},
	{"a disk", crate.ErrDisk, func(d *draft) { d.disk = low(1, 2) }},
	{"too many entries", crate.ErrQuota, func(d *draft) { d.q.Entries = 9 }},
	{"the directory's place", crate.ErrDirectory, func(d *draft) { d.gap = "x" }},
	{"the first one's mark", crate.ErrDirectory, func(d *draft) { d.items[0].markless = true }},
	{"the first one's disk", crate.ErrDisk, func(d *draft) { d.items[0].disk = 1 }},
	{"the first one's flags", crate.ErrMethod, func(d *draft) { d.items[0].flags = 1 }},
	{"the first one's name", crate.ErrName, func(d *draft) { d.items[0].name = "a//b" }},
	{"the first one's size", crate.ErrSize, func(d *draft) { d.items[0].size = 99 }},
	{"the second one's extras", crate.ErrDirectory, func(d *draft) { d.items[1].extras = "x" }},
	{"the second one's disk", crate.ErrDisk, func(d *draft) { d.items[1].disk = 65535 }},
	{"the second one's method", crate.ErrMethod, func(d *draft) { d.items[1].method = 7 }},
	{"the second one's name", crate.ErrName, func(d *draft) { d.items[1].name = ".." }},
	{"the second one's size", crate.ErrSize, func(d *draft) { d.items[1].size = 0 }},
	{"bytes behind the entries", crate.ErrDirectory, func(d *draft) { d.trailing = "PK\x01\x02" }},
	{"names too long", crate.ErrQuota, func(d *draft) { d.q.Names = 5 }},
	{"a name twice", crate.ErrTwice, func(d *draft) { d.items[3].name = d.items[2].name }},
	{"a header", crate.ErrHeader, func(d *draft) { d.items[4].headFlags = 4 }},
	{"an overlap", crate.ErrOverlap, func(d *draft) { d.overlap = true }},
	{"too many bytes", crate.ErrQuota, func(d *draft) { d.q.Bytes = 5 }},
}

// unpackFaults are what Unpack tells behind these.
var unpackFaults = []fault{
	{"the first one's block", crate.ErrData, func(d *draft) { d.items[firstPacked].data = "\x07" + d.items[firstPacked].data }},
	{"the first one's size", crate.ErrSize, func(d *draft) { d.items[firstPacked].size-- }},
	{"a byte behind the first one", crate.ErrData, func(d *draft) { d.items[firstPacked].data += "x" }},
	{"the first one's sum", crate.ErrSum, func(d *draft) { d.items[firstPacked].sum ^= 1 }},
	{"the second one's bytes", crate.ErrData, func(d *draft) { d.items[secondPacked].data = "" }},
	{"the second one's size", crate.ErrSize, func(d *draft) { d.items[secondPacked].size++ }},
	{"a byte behind the second one", crate.ErrData, func(d *draft) { d.items[secondPacked].data += "\x00" }},
	{"the second one's sum", crate.ErrSum, func(d *draft) { d.items[secondPacked].sum ^= 1 << 31 }},
	{"a plain one's sum", crate.ErrSum, func(d *draft) { d.items[plainBehind].sum = 0 }},
}

// refusal holds a call against an error.
type refusal func(t *testing.T, what, archive string, q crate.Quota, want crate.Errno)

// tellsTheFirst: of faults in their order, the first that is there is told.
func tellsTheFirst(t *testing.T, faults []fault, refuses refusal) {
	t.Helper()
	for i := range faults {
		// With each other one that is told later, and with all of these.
		for j := i; j <= len(faults); j++ {
			d, name := soundDraft(), faults[i].name
			faults[i].make(&d)
			for k := i + 1; k < len(faults); k++ {
				if k == j || j == len(faults) {
					faults[k].make(&d)
					name += ", " + faults[k].name
				}
			}
			refuses(t, name, d.archive(), d.q, faults[i].e)
		}
	}
}

func TestListTellsTheFirstFault(t *testing.T) {
	tellsTheFirst(t, faults, refusesList)
	d := soundDraft()
	lists(t, "no fault", d.archive(), d.q, lay(d.items...).told)
	for _, f := range unpackFaults {
		f.make(&d)
		lists(t, "what List does not look at: "+f.name, d.archive(), d.q, lay(d.items...).told)
	}
}

func TestUnpackTellsTheFirstFault(t *testing.T) {
	tellsTheFirst(t, slices.Concat(faults, unpackFaults), refusesUnpack)
	d := soundDraft()
	var want []crate.File
	for _, it := range d.items {
		want = append(want, crate.File{Path: it.name, Data: it.name})
	}
	slices.SortFunc(want, func(a, b crate.File) int { return strings.Compare(a.Path, b.Path) })
	unpacks(t, "no fault", d.archive(), d.q, want...)
}

// TestEntryTellsItsFirstFault: faults of one entry that the list above has not.
func TestEntryTellsItsFirstFault(t *testing.T) {
	link := stored("..", "data")
	link.maker, link.outer, link.size = 3<<8, 0xA0000000, 9
	refusesItems(t, "a link with no name", crate.ErrMethod, link)
	far := stored("../a", "data")
	far.place, far.wide, far.disk = 1<<40+1, "place", 1
	refusesItems(t, "a place too great, on another disk", crate.ErrDirectory, far)
	folder := stored("a//", "data")
	refusesItems(t, "a folder with no name and with bytes", crate.ErrName, folder)
	refusesItems(t, "a file's size, then a mark", crate.ErrSize, item{name: "a", size: 1}, item{name: "b", markless: true})
}

// TestEndIsLookedAtAheadOfDisks, those of PK 6 6 and PK 6 7 too.
func TestEndIsLookedAtAheadOfDisks(t *testing.T) {
	l := lay(stored("a", "1"))
	end := put(endOf(0, 0, 0), 4, low(1, 2)+low(2, 2)+low(3, 2)+ones(10))
	refusesList(t, "another disk, and no PK 6 7", l.spans+l.directory+end, anything, crate.ErrEnd)
	place := put(l.wideEndPlace(), 4, low(1, 4))
	refusesList(t, "another disk in PK 6 7, and no PK 6 6",
		l.spans+l.directory+put(l.wideEnd(), 4, low(43, 8))+place+end, anything, crate.ErrEnd)
	refusesList(t, "another disk, and more entries than allowed",
		l.spans+l.directory+l.wideEnd()+place+put(endOf(0, 0, 0), 8, ones(12)), crate.Quota{}, crate.ErrDisk)
	count := put(l.wideEnd(), 24, ones(32))
	refusesList(t, "more entries than allowed, and no such directory",
		l.spans+l.directory+count+l.wideEndPlace()+put(endOf(0, 0, 0), 8, ones(12)), crate.Quota{Entries: 9}, crate.ErrQuota)
}
