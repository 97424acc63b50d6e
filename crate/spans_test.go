package crate_test

import (
	"fmt"
	"strings"
	"testing"

	"crate/crate"
)

func TestHeaderIsNotTheSame(t *testing.T) {
	for name, change := range map[string]func(it *item){
		"the name":                  func(it *item) { it.headName = "b" },
		"a longer name":             func(it *item) { it.headName = "aa" },
		"a file's for a folder's":   func(it *item) { it.headName = "a/" },
		"a flag more":               func(it *item) { it.headFlags = 2 },
		"a flag less":               func(it *item) { it.flags, it.headFlags = 2048, 2048 },
		"the flag 8 more":           func(it *item) { it.headFlags = 8 },
		"the flag 8 less":           func(it *item) { it.flags, it.headFlags = 8, 8 },
		"a flag of the higher byte": func(it *item) { it.headFlags = 256 },
		"the method":                func(it *item) { it.headMethod = 8 },
		"the method's higher byte":  func(it *item) { it.headMethod = 256 },
		"the method 8":              func(it *item) { it.method, it.headMethod = 8, 8 },
		"the sum":                   func(it *item) { it.headThree = low(uint64(it.sum^1), 4) + low(4, 4) + low(4, 4) },
		"the sum's highest bit":     func(it *item) { it.headThree = low(uint64(it.sum^1<<31), 4) + low(4, 4) + low(4, 4) },
		"packed":                    func(it *item) { it.headThree = low(uint64(it.sum), 4) + low(3, 4) + low(4, 4) },
		"size":                      func(it *item) { it.headThree = low(uint64(it.sum), 4) + low(4, 4) + low(5, 4) },
		"all three are 0":           func(it *item) { it.noughts = true },
		"all bits 1":                func(it *item) { it.headThree = low(uint64(it.sum), 4) + ones(8) },
		"all bits 1 in the size":    func(it *item) { it.headThree = low(uint64(it.sum), 4) + low(4, 4) + ones(4) },
	} {
		it := stored("a", "data")
		change(&it)
		refusesItems(t, name, crate.ErrHeader, it)
		refusesItems(t, name+", the second", crate.ErrHeader, stored("first/", ""), it, stored("last", ""))
	}
}

func TestHeaderMark(t *testing.T) {
	l := lay(stored("a", "data"))
	for at := range 4 {
		changed := l
		changed.spans = put(l.spans, at, "x")
		refusesList(t, fmt.Sprint("the mark's byte ", at), changed.archive(), anything, crate.ErrHeader)
	}
	for _, mark := range []string{"PK\x01\x02", "PK\x07\x08", "PK\x04\x03"} {
		changed := l
		changed.spans = put(l.spans, 0, mark)
		refusesList(t, fmt.Sprintf("%q", mark), changed.archive(), anything, crate.ErrHeader)
	}
}

// TestHeaderOfWideNumbers: ahead of the file stands what the directory has,
// bit for bit, not what is meant.
func TestHeaderOfWideNumbers(t *testing.T) {
	it := deflated("a", "data", "what it gives")
	sum, packed, size := low(uint64(it.sum), 4), low(4, 4), low(13, 4)
	for wide, three := range map[string]string{
		"size": sum + packed + ones(4), "packed": sum + ones(4) + size, "size packed": sum + ones(8), "place": sum + packed + size,
	} {
		it.wide = wide
		it.headThree = three
		listsAll(t, wide, it)
		for _, other := range []string{sum + packed + ones(4), sum + ones(4) + size, sum + ones(8), sum + packed + size, low(0, 12), ones(12)} {
			if other != three {
				it.headThree = other
				refusesItems(t, fmt.Sprintf("%s, %q", wide, other), crate.ErrHeader, it)
			}
		}
	}
}

func TestNumbersBehindTheFile(t *testing.T) {
	it := deflated("a", "data", "what it gives")
	it.flags = 8
	listsAll(t, "ahead and behind", it, stored("b", ""))
	it.noughts = true
	listsAll(t, "only behind", it, stored("b", ""))
	sum, packed, size := low(uint64(it.sum), 4), low(4, 4), low(13, 4)
	listsAll(t, "a plain file", item{name: "a", data: "data", size: 4, sum: it.sum, flags: 8, noughts: true})
	listsAll(t, "a folder", item{name: "a/", flags: 8})
	for _, three := range []string{
		low(0, 4) + packed + size, sum + low(0, 4) + size, sum + packed + low(0, 4), low(0, 8) + size, sum + low(0, 8), low(0, 4) + packed + low(0, 4),
		ones(12), low(1, 12),
	} {
		it.headThree = three
		refusesItems(t, fmt.Sprintf("ahead %q", three), crate.ErrHeader, it)
	}
	it.headThree = ""
	mark := "PK\x07\x08"
	for _, later := range []string{
		low(0, 16), mark + low(0, 12), mark + low(0, 4) + packed + size, mark + sum + low(0, 4) + size, mark + sum + packed + low(0, 4),
		mark + sum + size + packed, mark + packed + size + sum, sum + packed + size + mark, "PK\x08\x07" + sum + packed + size,
		sum + packed + size, mark + ones(12), mark + sum + low(4, 8) + low(13, 8), "x" + mark + sum + packed + size,
	} {
		it.later = later
		refusesItems(t, fmt.Sprintf("behind %q", later), crate.ErrHeader, it)
		refusesItems(t, fmt.Sprintf("behind %q, others behind it", later), crate.ErrHeader, it, stored("b", ""))
	}
}

func TestNumbersBehindTheFileAreThoseMeant(t *testing.T) {
	sum := low(7, 4)
	it := item{name: "a", data: "d", method: 8, flags: 8, sum: 7, size: 5 + 1<<32, wide: "size packed"}
	for _, ahead := range []string{low(0, 12), sum + ones(8)} {
		it.headThree = ahead
		for _, c := range []struct {
			later string
			fine  bool
		}{
			{sum + low(1, 4) + low(5, 4), true},
			{sum + ones(8), false},
			{sum + low(1, 4) + ones(4), false},
			{sum + low(1, 4) + low(6, 4), false},
			{sum + low(1, 4) + low(0, 4), false},
			{sum + low(1, 8) + low(5+1<<32, 8), false},
		} {
			it.later = "PK\x07\x08" + c.later
			if c.fine {
				listsAll(t, fmt.Sprintf("%q, %q", ahead, c.later), it)
			} else {
				refusesItems(t, fmt.Sprintf("%q, %q", ahead, c.later), crate.ErrHeader, it)
			}
		}
	}
	it.headThree, it.later = sum+low(1, 4)+low(5, 4), "PK\x07\x08"+sum+low(1, 4)+low(5, 4)
	refusesItems(t, "what is meant, ahead", crate.ErrHeader, it)
}

// TestSpanLiesAheadOfTheDirectory: a span may touch it, but not by one byte
// reach into it.
func TestSpanLiesAheadOfTheDirectory(t *testing.T) {
	longer := deflated("a", "data", "what it gives")
	longer.packed = len(longer.data)
	listsAll(t, "touches", longer)
	longer.packed++
	refusesItems(t, "by one byte", crate.ErrHeader, longer)
	longer.packed = 9999
	refusesItems(t, "by many", crate.ErrHeader, longer)
	// A header that ends just there, or one byte later: the x bytes reach there.
	it := stored("a", "")
	it.more = "more"
	l := lay(it)
	lists(t, "x bytes touch", l.archive(), anything, l.told)
	l.spans = put(l.spans, 28, low(5, 2))
	refusesList(t, "x bytes by one", l.archive(), anything, crate.ErrHeader)
	// What stands behind the file must lie ahead of the directory, too.
	later := stored("a", "data")
	later.flags = 8
	for n := 1; n <= 16; n++ {
		l = lay(later)
		l.spans = l.spans[:len(l.spans)-n]
		refusesList(t, fmt.Sprint("numbers behind the file, cut by ", n), l.archive(), anything, crate.ErrHeader)
	}
	// Whole or in part in the directory, or behind all.
	l = lay(stored("a", "data"))
	for _, place := range []int{1, len(l.spans) - 1, len(l.spans), len(l.spans) + 1, len(l.archive()) - 1, len(l.archive()), len(l.archive()) + 1, 1 << 31} {
		moved := stored("a", "data")
		moved.place = place
		refusesItems(t, fmt.Sprint("at ", place), crate.ErrHeader, moved)
	}
}

// TestSpanWithinTheDirectory: the span is all right, but lies in a remark.
func TestSpanWithinTheDirectory(t *testing.T) {
	it := stored("a", "data")
	it.remark = it.span()
	place := len(it.span()) + len(it.entry(0)) - len(it.remark)
	inside := it
	inside.place = place
	refusesItems(t, "in a remark", crate.ErrHeader, inside)
	listsAll(t, "not in it", it)
}

// sharedByte joins two items so that the second begins with the first's last byte.
func sharedByte(a, b item) layout {
	l := lay(a, b)
	place := len(a.span()) - 1
	l.spans = a.span() + b.span()[1:]
	l.directory = a.entry(0) + b.entry(place)
	return l
}

func TestSpansShareAByte(t *testing.T) {
	a, b := stored("a", "data ends with P"), stored("b", "other")
	listsAll(t, "they touch", a, b)
	l := sharedByte(a, b)
	refusesList(t, "one byte", l.archive(), anything, crate.ErrOverlap)
	l.directory = b.entry(len(a.span())-1) + a.entry(0)
	refusesList(t, "one byte, turned", l.archive(), anything, crate.ErrOverlap)
	folder := stored("d/", "")
	folder.more = "P"
	listsAll(t, "a folder touches", folder, b)
	refusesList(t, "a folder's last byte", sharedByte(folder, b).archive(), anything, crate.ErrOverlap)
	// Numbers behind a file belong to its span: here they end with a P.
	later := item{name: "a", data: "x", method: 8, flags: 8, size: 'P' << 24}
	listsAll(t, "numbers behind touch", later, b)
	refusesList(t, "numbers behind", sharedByte(later, b).archive(), anything, crate.ErrOverlap)
}

// TestSpansWithinEachOther: files that lie in the bytes of another.
func TestSpansWithinEachOther(t *testing.T) {
	inner, next := stored("inner", "1"), stored("next", "2")
	outer := stored("outer", "some"+inner.span()+"more"+next.span()+"rest")
	last := stored("last", "end")
	l := lay(outer, last)
	begin := 30 + len("outer") + len("some")
	entries := []string{
		outer.entry(0), inner.entry(begin), next.entry(begin + len(inner.span()) + 4), last.entry(len(outer.span())),
	}
	lists(t, "without those within", l.archive(), anything, l.told)
	for _, order := range [][]int{{0, 1}, {1, 0}, {0, 2}, {2, 0}, {0, 1, 2, 3}, {3, 2, 1, 0}, {3, 0, 2}, {1, 2, 3, 0}, {3, 1, 0}} {
		l.directory, l.count = "", len(order)
		for _, i := range order {
			l.directory += entries[i]
		}
		refusesList(t, fmt.Sprint("in the order ", order), l.archive(), anything, crate.ErrOverlap)
	}
	l.directory, l.count = entries[3]+entries[2]+entries[1], 3
	if got, e := crate.List(l.archive(), anything); len(got) != 3 || e != crate.OK {
		t.Errorf("those within alone: %v, %d", got, e)
	}
}

// TestSpansOfMany: in whatever order, and with gaps between them.
func TestSpansOfMany(t *testing.T) {
	var items []item
	for i := range 200 {
		it := stored(fmt.Sprint("f", i), strings.Repeat("d", i%7))
		it.gap = strings.Repeat("g", i%3)
		items = append(items, it)
	}
	l := lay(items...)
	lists(t, "in order", l.archive(), anything, l.told)
	entries := strings.SplitAfter(l.directory, "PK\x01\x02")
	l.directory = ""
	for i := len(entries) - 1; i > 0; i-- {
		l.directory += "PK\x01\x02" + strings.TrimSuffix(entries[i], "PK\x01\x02")
	}
	for i := range len(l.told) / 2 {
		l.told[i], l.told[len(l.told)-1-i] = l.told[len(l.told)-1-i], l.told[i]
	}
	lists(t, "turned", l.archive(), anything, l.told)
}
