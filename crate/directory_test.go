package crate_test

import (
	"fmt"
	"math"
	"strings"
	"testing"

	"crate/crate"
)

// TestEntriesLieAsSaid changes a directory and says its true size and place.
func TestEntriesLieAsSaid(t *testing.T) {
	full := stored("ab", "data")
	full.extras, full.remark = extra(5, "x"), "remark"
	l := lay(full, stored("c", "1"))
	second := len(full.entry(0))
	with := func(directory string) string {
		changed := l
		changed.directory = directory
		return changed.archive()
	}
	refused := map[string]string{
		"one byte more":              l.directory + "x",
		"an entry more":              l.directory + full.with("d").entry(0),
		"a byte between":             l.directory[:second] + "x" + l.directory[second:],
		"another mark":               put(l.directory, 0, "PK\x03\x04"),
		"another mark of the second": put(l.directory, second, "PK\x01\x03"),
		"a longer name":              put(l.directory, second+28, low(2, 2)),
		"a much longer name":         put(l.directory, second+28, ones(2)),
		"longer extras":              put(l.directory, second+30, low(1, 2)),
		"a longer remark":            put(l.directory, second+32, low(1, 2)),
		"a much longer remark":       put(l.directory, 32, ones(2)),
	}
	for name, directory := range refused {
		refusesList(t, name, with(directory), anything, crate.ErrDirectory)
	}
	for n := range l.directory {
		refusesList(t, fmt.Sprint("the first ", n), with(l.directory[:n]), anything, crate.ErrDirectory)
	}
	lists(t, "as it is", with(l.directory), anything, l.told)
}

// TestEntryEndsWithTheDirectory: bytes behind the directory's end are not its
// own, though they are what it would need.
func TestEntryEndsWithTheDirectory(t *testing.T) {
	l := lay(stored("a", "1"))
	l.directory = put(l.directory, 32, low(4, 2)) // a remark, of which the end has the bytes
	refusesList(t, "a remark out of the end", l.archive(), anything, crate.ErrDirectory)
	refusesList(t, "a remark out of PK 6 6", l.wideArchive(), anything, crate.ErrDirectory)
}

func TestExtras(t *testing.T) {
	for _, extras := range []string{
		"", extra(0, ""), extra(1, ""), extra(1, "1234567"), extra(1, ones(24)), extra(7, "abc") + extra(8, ""),
		extra(1, "") + extra(1, "x"), extra(65535, strings.Repeat("x", 65531)),
	} {
		it := stored("a", "data")
		it.extras = extras
		listsAll(t, fmt.Sprintf("extras %.20q", extras), it)
	}
	for _, extras := range []string{
		"x", "xy", "xyz", "\x01", "\x01\x00\x00", low(5, 2) + low(1, 2), low(1, 2) + low(1, 2), low(5, 2) + low(3, 2) + "ab",
		low(5, 2) + ones(2) + "ab", extra(5, "") + "x", extra(1, "12345678") + "xyz", extra(5, "a") + low(6, 2) + low(256, 2) + "b",
		extra(5, "a") + low(0, 3), extra(0, "") + low(0, 1),
	} {
		it := stored("a", "data")
		it.extras = extras
		refusesItems(t, fmt.Sprintf("extras %q", extras), crate.ErrDirectory, it)
		// Not even if all that is needed stands ahead of what is wrong.
		it.wide, it.ownExtras = "place", true
		it.extras = extra(1, low(0, 8)) + extras
		refusesItems(t, fmt.Sprintf("extras %q behind what is needed", extras), crate.ErrDirectory, it)
	}
}

// wides are all choices of size, packed and place.
func wides() []string {
	var all []string
	for choice := range 8 {
		wide := ""
		for i, what := range []string{"size ", "packed ", "place "} {
			if choice>>i&1 == 1 {
				wide += what
			}
		}
		all = append(all, wide)
	}
	return all
}

// withExtra makes an archive of a folder and a packed file, of which some
// numbers are said to stand in extras, and these extras, whatever they are.
func withExtra(wide string, extras func(right string) string) (string, []crate.Entry) {
	first, second := stored("first/", ""), deflated("b", "packed", "what it gives")
	second.wide, second.ownExtras = wide, true
	second.extras = extras(second.wideNumbers(len(first.span())))
	l := lay(first, second)
	return l.archive(), l.told
}

func TestNumbersInExtras(t *testing.T) {
	for _, wide := range wides() {
		for name, extras := range map[string]func(right string) string{
			"just these":                func(right string) string { return extra(1, right) },
			"more bytes":                func(right string) string { return extra(1, right+"x") },
			"a number more":             func(right string) string { return extra(1, right+low(77, 8)) },
			"a number that is too much": func(right string) string { return extra(1, right+ones(8)) },
			"others ahead":              func(right string) string { return extra(5, "") + extra(257, ones(24)) + extra(1, right) },
			"others behind":             func(right string) string { return extra(1, right) + extra(5, "ab") },
			"another of the kind 1":     func(right string) string { return extra(1, right) + extra(1, ones(24)) },
			"another, empty":            func(right string) string { return extra(1, right) + extra(1, "") },
		} {
			archive, told := withExtra(wide, extras)
			lists(t, wide+name, archive, anything, told)
		}
		if wide == "" {
			continue
		}
		for name, extras := range map[string]func(right string) string{
			"none":                       func(right string) string { return "" },
			"none of the kind 1":         func(right string) string { return extra(2, right) },
			"of the kind 256":            func(right string) string { return extra(256, right) },
			"of the kind 257":            func(right string) string { return extra(257, right) },
			"empty":                      func(right string) string { return extra(1, "") },
			"a byte less":                func(right string) string { return extra(1, right[:len(right)-1]) },
			"a number less":              func(right string) string { return extra(1, right[8:]) },
			"the right ones in a second": func(right string) string { return extra(1, "") + extra(1, right) },
			"half of them in a second":   func(right string) string { return extra(1, right[:4]) + extra(1, right[4:]) },
			"a byte less, then others":   func(right string) string { return extra(1, right[:len(right)-1]) + extra(5, "x") },
			"one too great":              func(right string) string { return extra(1, put(right, len(right)-8, low(1<<40+1, 8))) },
			"the first too great":        func(right string) string { return extra(1, low(1<<40+1, 8)+right[8:]) },
			"right in 32 bits, 2**63":    func(right string) string { return extra(1, put(right, len(right)-1, "\x80")) },
			"2**63-1":                    func(right string) string { return extra(1, low(math.MaxInt64, 8)+right[8:]) },
			"all bits 1":                 func(right string) string { return extra(1, ones(8)+right[8:]) },
		} {
			archive, _ := withExtra(wide, extras)
			refusesList(t, wide+name, archive, anything, crate.ErrDirectory)
		}
	}
}

// TestNumbersThatAreMeantAreTold: each alone and all together, of a plain file,
// and not the four bytes that are all ones.
func TestNumbersThatAreMeantAreTold(t *testing.T) {
	for _, wide := range wides() {
		it := stored("a", "x")
		it.wide = wide
		lists(t, wide+"alone", archiveOf(it), anything,
			[]crate.Entry{{Name: "a", Sum: 0x8CDC1683, Packed: 1, Size: 1, Place: 31}})
		unpacks(t, wide+"alone", archiveOf(it), anything, file("a", "x"))
		two := archiveOf(stored("b", "data"), it)
		lists(t, wide+"behind another", two, anything, []crate.Entry{
			{Name: "b", Sum: 0xADF3F363, Packed: 4, Size: 4, Place: 31},
			{Name: "a", Sum: 0x8CDC1683, Packed: 1, Size: 1, Place: 35 + 31},
		})
		unpacks(t, wide+"behind another", two, anything, file("a", "x"), file("b", "data"))
	}
}

// TestNumbersUpToTwoToTheFortieth, of which one more is refused at once.
func TestNumbersUpToTwoToTheFortieth(t *testing.T) {
	const most = 1 << 40
	for _, c := range []struct {
		name string
		it   item
		e    crate.Errno
	}{
		{"size", item{size: most, wide: "size"}, crate.OK},
		{"size, one more", item{size: most + 1, wide: "size"}, crate.ErrDirectory},
		{"size in 4 bytes", item{size: math.MaxUint32 - 1}, crate.OK},
		{"size with all bits 1", item{size: math.MaxUint32, wide: "size"}, crate.OK},
		{"size with all bits 1, and no extra", item{size: math.MaxUint32}, crate.ErrDirectory},
		{"packed", item{packed: most, wide: "packed"}, crate.ErrHeader},
		{"packed, one more", item{packed: most + 1, wide: "packed"}, crate.ErrDirectory},
		{"packed with all bits 1", item{packed: math.MaxUint32, wide: "packed"}, crate.ErrHeader},
		{"packed with all bits 1, and no extra", item{packed: math.MaxUint32}, crate.ErrDirectory},
		{"place", item{place: most, wide: "place"}, crate.ErrHeader},
		{"place, one more", item{place: most + 1, wide: "place"}, crate.ErrDirectory},
		{"place with all bits 1", item{place: math.MaxUint32, wide: "place"}, crate.ErrHeader},
		{"place with all bits 1, and no extra", item{place: math.MaxUint32}, crate.ErrDirectory},
		{"place in 4 bytes", item{place: math.MaxUint32 - 1}, crate.ErrHeader},
		{"all of them", item{size: most, packed: most, place: most, wide: "size packed place"}, crate.ErrHeader},
	} {
		c.it.name, c.it.data, c.it.method = "a", "x", 8
		if c.e == crate.OK {
			listsAll(t, c.name, c.it)
		} else {
			refusesItems(t, c.name, c.e, c.it)
		}
	}
}

func TestEntryDisk(t *testing.T) {
	for _, disk := range []int{1, 256, 65535} {
		it := stored("a", "1")
		it.disk = disk
		refusesItems(t, fmt.Sprint("disk ", disk), crate.ErrDisk, it)
		refusesItems(t, fmt.Sprint("disk of the second ", disk), crate.ErrDisk, stored("b", ""), it)
	}
}

func TestEntryFlags(t *testing.T) {
	for bit := range 16 {
		it := stored("a", "1")
		it.flags = 1 << bit
		switch it.flags {
		case 2, 4, 8, 2048:
			listsAll(t, fmt.Sprint("flag ", it.flags), it)
		default:
			refusesItems(t, fmt.Sprint("flag ", it.flags), crate.ErrMethod, it)
			it.flags |= 2 | 4 | 8 | 2048
			refusesItems(t, fmt.Sprint("flags ", it.flags), crate.ErrMethod, it)
		}
	}
}

func TestEntryMethod(t *testing.T) {
	for _, method := range []int{1, 2, 7, 9, 12, 14, 99, 256, 256 + 8, 65535} {
		it := stored("a", "1")
		it.method = method
		refusesItems(t, fmt.Sprint("method ", method), crate.ErrMethod, it)
	}
}

func TestEntryLink(t *testing.T) {
	for top := range 16 {
		for _, maker := range []int{0, 3, 2 << 8, 3 << 8, 3<<8 | 20, 3<<8 | 255, 4 << 8, 19 << 8, 255 << 8} {
			it := stored("a", "1")
			it.maker, it.outer = maker, uint64(top)<<28|0x1ff0000
			name := fmt.Sprintf("maker %d, outer %x", maker, it.outer)
			if maker>>8 == 3 && top == 10 {
				refusesItems(t, name, crate.ErrMethod, it)
			} else {
				listsAll(t, name, it)
			}
		}
	}
	it := stored("a", "1")
	it.maker, it.outer = 3<<8, 0xAFFFFFFF
	refusesItems(t, "a link, all else 1", crate.ErrMethod, it)
	it.outer = 0x0AAAAAAA
	listsAll(t, "only the highest four bits", it)
}

func TestEntrySizes(t *testing.T) {
	other := func(it item, size int) item {
		it.size = size
		return it
	}
	packedFolder := item{name: "d/", method: 8}
	longPacked := packedFolder
	longPacked.data = "\x03\x00"
	for name, it := range map[string]item{
		"a file, one less":                  other(stored("a", "data"), 3),
		"a file, one more":                  other(stored("a", "data"), 5),
		"a file of none, one more":          other(stored("a", ""), 1),
		"a file with bytes, none":           other(stored("a", "d"), 0),
		"a folder with bytes":               stored("d/", "data"),
		"a folder with a size":              other(packedFolder, 1),
		"a folder with packed bytes":        longPacked,
		"a folder with a great size":        {name: "d/", method: 8, size: 1 << 32, wide: "size"},
		"a file, right in the lowest bytes": {name: "a", data: "d", size: 1 + 1<<32, wide: "size"},
	} {
		refusesItems(t, name, crate.ErrSize, it)
	}
	for name, it := range map[string]item{
		"a packed file that gets shorter": other(deflated("a", "data", ""), 0),
		"a packed file of no bytes":       other(deflated("a", "", ""), 7),
		"a packed folder":                 packedFolder,
	} {
		listsAll(t, name, it)
	}
	wideFolder := stored("d/", "")
	wideFolder.wide = "size packed place"
	listsAll(t, "a folder whose noughts stand in an extra", wideFolder)
}
