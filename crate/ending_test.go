package crate_test

import (
	"fmt"
	"math"
	"strings"
	"testing"

	"crate/crate"
)

func TestEndBytesBehind(t *testing.T) {
	l := lay(stored("a", "1"))
	with := func(said, there int) string {
		return put(l.archive(), len(l.archive())-2, low(uint64(said), 2)) + strings.Repeat("b", there)
	}
	for _, n := range []int{0, 1, 2, 21, 22, 99, 100} {
		lists(t, fmt.Sprint(n, " behind"), with(n, n), anything, l.told)
		refusesList(t, fmt.Sprint(n, " behind, one more said"), with(n+1, n), anything, crate.ErrEnd)
		refusesList(t, fmt.Sprint(n, " behind, one less said"), with(n, n+1), anything, crate.ErrEnd)
	}
	for _, n := range []int{101, 102, 200, 256, 257, 65535} {
		refusesList(t, fmt.Sprint(n, " behind"), with(n, n), anything, crate.ErrEnd)
	}
	refusesList(t, "256 said, none there", with(256, 0), anything, crate.ErrEnd)
}

func TestEndIsNotThere(t *testing.T) {
	for _, archive := range []string{
		"", "P", "PK\x05\x06", nothing[:21], nothing[1:], "PK\x05\x05" + nothing[4:], "PK\x06\x06" + nothing[4:],
		"pk\x05\x06" + nothing[4:], "QK\x05\x06" + nothing[4:], "PL\x05\x06" + nothing[4:],
		strings.Repeat("\x00", 500), strings.Repeat("PK\x05\x06", 100),
	} {
		refusesList(t, fmt.Sprintf("%q", archive), archive, anything, crate.ErrEnd)
	}
}

// TestEndNearest: an end in the bytes behind another one is the end.
func TestEndNearest(t *testing.T) {
	l := lay(stored("a", "1"))
	outer := l.archive()
	behind := func(bytes string) string {
		return put(outer, len(outer)-2, low(uint64(len(bytes)), 2)) + bytes
	}
	at := len(outer)
	lists(t, "a good one behind", behind(endOf(0, 0, at)), anything, nil)
	lists(t, "a good one behind, with bytes behind it",
		behind("xyz"+endOf(0, 0, at+3)[:20]+low(2, 2)+"PK"), anything, nil)
	refusesList(t, "a bad one behind", behind(endOf(0, 0, 0)), anything, crate.ErrDirectory)
	refusesList(t, "one on another disk behind", behind(put(endOf(0, 0, at), 4, "\x01")), anything, crate.ErrDisk)
	refusesList(t, "one that needs more behind", behind(put(endOf(0, 0, at), 16, ones(4))), anything, crate.ErrEnd)
	lists(t, "one with a wrong number of bytes", behind(put(endOf(0, 0, at), 20, low(1, 2))), anything, l.told)
	lists(t, "one that is cut", behind(endOf(0, 0, at)[:21]), anything, l.told)
	lists(t, "a mark alone", behind("PK\x05\x06"), anything, l.told)
	// All bytes behind the first are ends, too: the last of them counts.
	three := behind(endOf(0, 0, 0)[:20] + low(22, 2) + endOf(0, 0, at+22))
	lists(t, "three ends", three, anything, nil)
}

func TestEndDisks(t *testing.T) {
	l := lay(stored("a", "1"), stored("b", "2"))
	end := len(l.archive()) - 22
	for at := 4; at < 8; at++ {
		refusesList(t, fmt.Sprint("a disk, byte ", at), put(l.archive(), end+at, "\x01"), anything, crate.ErrDisk)
	}
	for at := 8; at < 12; at++ {
		refusesList(t, fmt.Sprint("a count, byte ", at), put(l.archive(), end+at, "\x07"), anything, crate.ErrDisk)
	}
	refusesList(t, "the first count has all bits 1", put(l.archive(), end+8, ones(2)), anything, crate.ErrDisk)
	refusesList(t, "both counts are more", put(l.archive(), end+8, low(3, 2)+low(3, 2)), anything, crate.ErrDirectory)
	refusesList(t, "both counts are less", put(l.archive(), end+8, low(1, 2)+low(1, 2)), anything, crate.ErrDirectory)
	refusesList(t, "both counts are 0", put(l.archive(), end+8, low(0, 4)), anything, crate.ErrDirectory)
}

func TestEndDirectoryLiesElsewhere(t *testing.T) {
	l := lay(stored("a", "1"))
	size, place := len(l.directory), len(l.spans)
	for _, c := range [][2]int{
		{size + 1, place}, {size - 1, place}, {size, place + 1}, {size, place - 1}, {size - 1, place + 1}, {size + 1, place - 1},
		{0, 0}, {0, place}, {size, 0}, {size + place, 0}, {0, size + place}, {math.MaxUint32 - 1, 0}, {0, math.MaxUint32 - 1},
		{math.MaxUint32 - 1, place + size + 2}, // the sum is right in 32 bits
	} {
		refusesList(t, fmt.Sprint("size and place ", c), l.spans+l.directory+endOf(1, c[0], c[1]), anything, crate.ErrDirectory)
	}
	for _, gap := range []string{"x", "PK\x01\x02", strings.Repeat("x", 100)} {
		refusesList(t, "a gap behind", l.spans+l.directory+gap+l.end(), anything, crate.ErrDirectory)
		refusesList(t, "bytes ahead of all", gap+l.archive(), anything, crate.ErrDirectory)
	}
}

func TestWideEnd(t *testing.T) {
	items := []item{stored("a", "1"), stored("b/", "")}
	l := lay(items...)
	wide := l.wideEnd() + l.wideEndPlace()
	with := func(end string) string { return l.spans + l.directory + wide + end }
	lists(t, "all bits 1", with(put(endOf(0, 0, 0), 8, ones(12))), anything, l.told)
	// Each alone calls for PK 6 6, and then all three numbers of the end mean nothing.
	for name, at := range map[string]int{"counts": 8, "size": 12, "place": 16} {
		for _, others := range []string{endOf(2, len(l.directory), len(l.spans)), endOf(0, 0, 0), endOf(9, 9, 9)} {
			lists(t, name, with(put(others, at, ones(4))), anything, l.told)
			refusesList(t, name+", without PK 6 6", l.spans+l.directory+put(others, at, ones(4)), anything, crate.ErrEnd)
		}
	}
	lists(t, "bytes behind", with(put(endOf(0, 0, 0), 8, ones(12)+low(3, 2))+"rem"), anything, l.told)
	// Near to all bits 1, and not it.
	for name, number := range map[string]string{"counts": low(65534, 2) + low(65534, 2), "size": low(math.MaxUint32-1, 4), "place": low(math.MaxUint32-1, 4)} {
		at := map[string]int{"counts": 8, "size": 12, "place": 16}[name]
		refusesList(t, name+" less one", with(put(l.end(), at, number)), anything, crate.ErrDirectory)
	}
	refusesList(t, "PK 6 6 that nothing calls for", with(l.end()), anything, crate.ErrDirectory)
	refusesList(t, "the first count alone", with(put(l.end(), 8, ones(2))), anything, crate.ErrDisk)
}

// TestWideEndIsNotThere: wherever PK 6 6 and PK 6 7 are not as they must be.
func TestWideEndIsNotThere(t *testing.T) {
	l := lay(stored("a", "1"))
	end := put(endOf(0, 0, 0), 8, ones(12))
	all := func(between string, wideEnd, wideEndPlace string) string {
		return l.spans + l.directory + wideEnd + between + wideEndPlace + end
	}
	wideEnd, wideEndPlace := l.wideEnd(), l.wideEndPlace()
	at := uint64(len(l.spans + l.directory))
	lists(t, "as said", all("", wideEnd, wideEndPlace), anything, l.told)
	for name, archive := range map[string]string{
		"no PK 6 7":                 l.spans + l.directory + wideEnd + end,
		"no PK 6 6":                 all("", "", wideEndPlace),
		"neither":                   all("", "", ""),
		"nothing else":              end,
		"only PK 6 7":               wideEndPlace + end,
		"PK 6 7 and a byte":         "x" + wideEndPlace + end,
		"PK 6 6 is cut":             all("", wideEnd[1:], wideEndPlace),
		"the other way round":       all("", wideEndPlace, wideEnd),
		"a byte between":            all("x", wideEnd, wideEndPlace),
		"a byte behind PK 6 7":      all("", wideEnd, wideEndPlace+"x"),
		"the place is one less":     all("", wideEnd, put(wideEndPlace, 8, low(at-1, 8))),
		"the place is one more":     all("", wideEnd, put(wideEndPlace, 8, low(at+1, 8))),
		"the place is right in 32":  all("", wideEnd, put(wideEndPlace, 8, low(at+1<<32, 8))),
		"the place is 0":            all("", wideEnd, put(wideEndPlace, 8, low(0, 8))),
		"the place has all bits 1":  all("", wideEnd, put(wideEndPlace, 8, ones(8))),
		"PK 6 6 has 43":             all("", put(wideEnd, 4, low(43, 8)), wideEndPlace),
		"PK 6 6 has 45":             all("", put(wideEnd, 4, low(45, 8)), wideEndPlace),
		"PK 6 6 has 0":              all("", put(wideEnd, 4, low(0, 8)), wideEndPlace),
		"PK 6 6 has 44 and 2**32":   all("", put(wideEnd, 4, low(44+1<<32, 8)), wideEndPlace),
		"PK 6 6 is longer by 1":     all("", put(wideEnd, 4, low(45, 8))+"x", wideEndPlace),
		"the mark of PK 6 6":        all("", put(wideEnd, 0, "PK\x06\x07"), wideEndPlace),
		"the mark of PK 6 7":        all("", wideEnd, put(wideEndPlace, 0, "PK\x06\x06")),
		"PK 6 6 elsewhere, as said": wideEnd + l.spans + l.directory + put(wideEndPlace, 8, low(0, 8)) + end,
	} {
		refusesList(t, name, archive, anything, crate.ErrEnd)
	}
}

func TestWideEndDisks(t *testing.T) {
	l := lay(stored("a", "1"))
	archive := l.wideArchive()
	wide := len(l.spans + l.directory)
	place, end := wide+56, wide+56+20
	for name, c := range map[string]struct {
		at   int
		with string
	}{
		"a disk of PK 6 6":             {wide + 16, low(1, 4)},
		"its highest byte":             {wide + 16, low(1<<24, 4)},
		"the other disk of PK 6 6":     {wide + 20, low(1, 4)},
		"all bits 1":                   {wide + 20, ones(4)},
		"the first count of PK 6 6":    {wide + 24, low(2, 8)},
		"the second count of PK 6 6":   {wide + 32, low(0, 8)},
		"a count that is right in 32":  {wide + 32, low(1+1<<32, 8)},
		"a count has all bits 1":       {wide + 32, ones(8)},
		"the disk of PK 6 7":           {place + 4, low(1, 4)},
		"no disks":                     {place + 16, low(0, 4)},
		"two disks":                    {place + 16, low(2, 4)},
		"disks, the highest byte":      {place + 16, low(1+1<<24, 4)},
		"a disk of the end":            {end + 4, low(1, 2)},
		"the other disk of the end":    {end + 6, low(1, 2)},
		"the first count of the end":   {end + 8, low(1, 2)},
		"the first count, by one less": {end + 8, low(65534, 2)},
	} {
		refusesList(t, name, put(archive, c.at, c.with), anything, crate.ErrDisk)
	}
	for _, version := range []string{low(0, 4), ones(4)} {
		lists(t, "versions", put(archive, wide+12, version), anything, l.told)
	}
}

func TestWideEndGreatNumbers(t *testing.T) {
	l := lay(stored("a", "1"))
	archive, wide := l.wideArchive(), len(l.spans+l.directory)
	allowed := crate.Quota{Entries: math.MaxInt - 1, Names: 9, Bytes: 9}
	top, most := low(1<<63, 8), low(math.MaxInt64, 8)
	// All that are above 2**63-1 count as that, and so do not differ.
	for _, counts := range []string{ones(16), top + ones(8), ones(8) + top, most + top, top + most, most + most} {
		refusesList(t, "counts, less allowed", put(archive, wide+24, counts), allowed, crate.ErrQuota)
		refusesList(t, "counts, all allowed", put(archive, wide+24, counts), anything, crate.ErrDirectory)
	}
	refusesList(t, "counts, one less", put(archive, wide+24, low(math.MaxInt64-1, 8)+most), allowed, crate.ErrDisk)
	refusesList(t, "counts that are allowed", put(archive, wide+24, low(math.MaxInt64-1, 8)+low(math.MaxInt64-1, 8)), allowed, crate.ErrDirectory)
	size, place := uint64(len(l.directory)), uint64(len(l.spans))
	for _, c := range [][2]uint64{
		{math.MaxUint64, math.MaxUint64}, {math.MaxUint64, place}, {size, math.MaxUint64}, {1 << 63, 1 << 63},
		{math.MaxInt64, math.MaxInt64}, {math.MaxUint64, place + size + 1}, {place + size + 1, math.MaxUint64},
		{size + 1<<32, place}, {size, place + 1<<32}, {1<<63 + size, place}, {1<<63 + size, 1<<63 + place},
		{size + 1, place}, {size, place + 1}, {size - 1, place}, {size, place - 1}, {0, 0},
	} {
		refusesList(t, fmt.Sprint("size and place ", c), put(archive, wide+40, low(c[0], 8)+low(c[1], 8)), anything, crate.ErrDirectory)
	}
	refusesList(t, "the directory has PK 6 6, too", put(archive, wide+40, low(size+56, 8)), anything, crate.ErrDirectory)
}

// TestWideEndOfManyEntries: their count has all bits 1, and is meant.
func TestWideEndOfManyEntries(t *testing.T) {
	for _, count := range []int{65534, 65535, 65536} {
		var items []item
		for i := range count {
			items = append(items, stored(fmt.Sprint("f", i), ""))
		}
		l := lay(items...)
		q := crate.Quota{Entries: count, Names: math.MaxInt}
		lists(t, fmt.Sprint(count, " entries, wide"), l.wideArchive(), q, l.told)
		q.Entries--
		refusesList(t, fmt.Sprint(count, " entries, less allowed"), l.wideArchive(), q, crate.ErrQuota)
		if count == 65534 {
			lists(t, "65534 entries", l.archive(), anything, l.told)
		}
	}
}
