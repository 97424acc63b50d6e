package crate_test

import (
	"archive/zip"
	"bytes"
	"fmt"
	"math"
	"math/rand"
	"slices"
	"strings"
	"testing"

	"crate/crate"
)

var nothing = "PK\x05\x06" + low(0, 18)

func TestListOfNothing(t *testing.T) {
	lists(t, "nothing", nothing, crate.Quota{}, nil)
	lists(t, "nothing, wide", lay().wideArchive(), crate.Quota{}, nil)
}

func TestListOfFilesAndFolders(t *testing.T) {
	lists(t, "a file", archiveOf(stored("a", "data")), anything,
		[]crate.Entry{{Name: "a", Method: 0, Sum: 0xADF3F363, Packed: 4, Size: 4, Place: 31}})
	lists(t, "a packed file", archiveOf(deflated("bb", "\x4b\x04\x00", "a")), anything,
		[]crate.Entry{{Name: "bb", Method: 8, Sum: 0xE8B7BE43, Packed: 3, Size: 1, Place: 32}})
	lists(t, "a folder", archiveOf(stored("a/", "")), anything,
		[]crate.Entry{{Name: "a/", Place: 32}})
	lists(t, "a file and its folder", archiveOf(stored("a/b", "12345"), stored("a/", "")), anything,
		[]crate.Entry{{Name: "a/b", Sum: 0xCBF53A1C, Packed: 5, Size: 5, Place: 33}, {Name: "a/", Place: 38 + 32}})
	packedFolder := stored("d/", "")
	packedFolder.method = 8
	listsAll(t, "several", stored("z", "1"), packedFolder, deflated("b", "\x03\x00", ""), stored("a", ""), stored("d/e/f/", ""))
	lists(t, "packed bytes that are none", archiveOf(deflated("a", "no", "whatever")), anything,
		[]crate.Entry{deflated("a", "no", "whatever").told(0)})
}

// TestListInTheOrderOfTheDirectory: that of the spans is another one.
func TestListInTheOrderOfTheDirectory(t *testing.T) {
	a, b, c := stored("a", "aaa"), stored("b", "bb"), stored("c", "c")
	l := lay(a, b, c)
	placeB, placeC := len(a.span()), len(a.span()+b.span())
	l.directory = c.entry(placeC) + a.entry(0) + b.entry(placeB)
	lists(t, "turned", l.archive(), anything, []crate.Entry{l.told[2], l.told[0], l.told[1]})
}

func TestListPassesOverWhatIsNotAsked(t *testing.T) {
	full := stored("a", "data")
	full.maker, full.outer, full.extras, full.remark, full.more, full.gap =
		0x0314, 0x81a40021, extra(0x5455, "\x03times")+extra(9, ""), "a remark", "more that is no extra", "a gap"
	listsAll(t, "all that may be there", full, full.with("b"), full.with("c/"+strings.Repeat("c", 50)))
	for _, flags := range []int{0, 2, 4, 2 | 4, 2048, 2 | 4 | 2048, 8, 2 | 4 | 8 | 2048} {
		full.flags = flags
		listsAll(t, fmt.Sprint("flags ", flags), full)
	}
}

func (it item) with(name string) item {
	it.name = name
	return it
}

// TestListOfArchivesOfAnotherWriter holds List against the library's reader.
func TestListOfArchivesOfAnotherWriter(t *testing.T) {
	r := rand.New(rand.NewSource(4))
	for count := range 40 {
		archive := writtenByLibrary(r, count)
		lists(t, fmt.Sprint(count, " entries"), archive, anything, listByLibrary(t, archive))
	}
}

// writtenByLibrary is an archive of so many entries.
func writtenByLibrary(r *rand.Rand, count int) string {
	var b bytes.Buffer
	w := zip.NewWriter(&b)
	for i := range count {
		if r.Intn(4) == 0 {
			w.Create(fmt.Sprintf("folder%d/", i))
			continue
		}
		name := fmt.Sprintf("folder%d/file%d", r.Intn(9)+1000, i)
		text := make([]byte, r.Intn(2000)*r.Intn(2))
		for j := range text {
			text[j] = byte(r.Intn(1 + r.Intn(200)))
		}
		f, _ := w.CreateHeader(&zip.FileHeader{Name: name, Method: uint16(8 * r.Intn(2)), Comment: "remark"})
		f.Write(text)
	}
	w.SetComment(strings.Repeat("c", r.Intn(101)))
	w.Close()
	return b.String()
}

func readByLibrary(t *testing.T, archive string) []*zip.File {
	t.Helper()
	reader, err := zip.NewReader(strings.NewReader(archive), int64(len(archive)))
	if err != nil {
		t.Fatal(err)
	}
	return reader.File
}

func listByLibrary(t *testing.T, archive string) []crate.Entry {
	t.Helper()
	var entries []crate.Entry
	for _, f := range readByLibrary(t, archive) {
		place, _ := f.DataOffset()
		entries = append(entries, crate.Entry{
			Name: f.Name, Method: int(f.Method), Sum: f.CRC32, Packed: int(f.CompressedSize64), Size: int(f.UncompressedSize64), Place: int(place),
		})
	}
	return entries
}

// lessThan are quotas of which at least one thing is less than in another.
func lessThan(q crate.Quota) []crate.Quota {
	return []crate.Quota{
		{Entries: q.Entries - 1, Names: q.Names, Bytes: q.Bytes}, {Entries: q.Entries, Names: q.Names - 1, Bytes: q.Bytes}, {Entries: q.Entries, Names: q.Names, Bytes: q.Bytes - 1},
		{Entries: -1, Names: q.Names, Bytes: q.Bytes}, {Entries: q.Entries, Names: -1, Bytes: q.Bytes}, {Entries: q.Entries, Names: q.Names, Bytes: -1},
		{}, {Entries: math.MinInt, Names: math.MinInt, Bytes: math.MinInt},
	}
}

func TestListQuotas(t *testing.T) {
	l := lay(stored("a", "data"), stored("folder/", ""), deflated("bcd", "p", "123456789"))
	just := crate.Quota{Entries: 3, Names: 1 + 7 + 3, Bytes: 4 + 9}
	lists(t, "just met", l.archive(), just, l.told)
	lists(t, "just met, wide", l.wideArchive(), just, l.told)
	for _, q := range lessThan(just) {
		refusesList(t, fmt.Sprint(q), l.archive(), q, crate.ErrQuota)
		refusesList(t, fmt.Sprint(q), l.wideArchive(), q, crate.ErrQuota)
	}
	for _, q := range []crate.Quota{{Entries: -1}, {Names: -1}, {Bytes: -1}, {Entries: math.MinInt}, {Names: math.MinInt}, {Bytes: math.MinInt}} {
		refusesList(t, fmt.Sprint("nothing ", q), nothing, q, crate.ErrQuota)
	}
	empty := lay(stored("a", ""), stored("b", ""))
	lists(t, "no bytes", empty.archive(), crate.Quota{Entries: 2, Names: 2}, empty.told)
	refusesList(t, "no bytes, less allowed", empty.archive(), crate.Quota{Entries: 2, Names: 2, Bytes: -1}, crate.ErrQuota)
}

// TestListQuotaOfGreatSizes: what is allowed is passed, though by no file alone.
func TestListQuotaOfGreatSizes(t *testing.T) {
	great := item{name: "a", data: "x", method: 8, size: 1 << 40, wide: "size"}
	l := lay(great, great.with("b"), great.with("c"))
	lists(t, "just met", l.archive(), crate.Quota{Entries: 3, Names: 3, Bytes: 3 << 40}, l.told)
	refusesList(t, "one more", l.archive(), crate.Quota{Entries: 3, Names: 3, Bytes: 3<<40 - 1}, crate.ErrQuota)
}

func TestListIsNewMemory(t *testing.T) {
	l := lay(stored("a", "1"), stored("b/", ""))
	archive := l.archive()
	first, _ := crate.List(archive, anything)
	second, _ := crate.List(archive, anything)
	for i := range first {
		first[i] = crate.Entry{Name: "changed"}
	}
	if !slices.Equal(second, l.told) {
		t.Errorf("an answer changed with another one: %v", second)
	}
	lists(t, "once more", archive, anything, l.told)
}

// TestListOfBytesThatEndAnywhere: at the end, and at the beginning.
func TestListOfBytesThatEndAnywhere(t *testing.T) {
	later := stored("c", "three")
	later.flags, later.noughts = 8, true
	wide := stored("b", "two")
	wide.wide = "size packed place"
	l := lay(stored("a", "one"), wide, later, stored("d/", ""))
	for _, archive := range []string{nothing, l.archive(), l.wideArchive(), lay().wideArchive()} {
		end := len(archive) - 22
		for n := range archive {
			refusesList(t, fmt.Sprint("the first ", n), archive[:n], anything, crate.ErrEnd)
		}
		for n := 1; n <= len(archive); n++ {
			want := crate.ErrEnd
			if n <= end && archive[len(archive)-6] != 0xff {
				want = crate.ErrDirectory
			}
			refusesList(t, fmt.Sprint("without the first ", n), archive[n:], anything, want)
		}
	}
}

// TestListNoticesEachBit turns each bit of an archive. What List does not look
// at may change: its answer is the same then. All else must be refused.
func TestListNoticesEachBit(t *testing.T) {
	it := stored("ab", "data")
	it.extras, it.remark = extra(5, "x"), "r"
	l := lay(it)
	archive, dir := l.archive(), len(l.spans)
	passedOver := func(at int) bool {
		for _, field := range [][2]int{
			{4, 2}, {10, 4}, {32, 4}, // ahead of the file: version, time, date; its data
			{dir + 4, 4}, {dir + 12, 4}, {dir + 36, 6}, // maker, version, time, date, inner, outer
			{dir + 48, 2}, {dir + 52, 1}, {dir + 53, 1}, // an extra's kind and byte, the remark
		} {
			if at >= field[0] && at < field[0]+field[1] {
				return true
			}
		}
		return false
	}
	for at := range archive {
		for bit := range 8 {
			changed := put(archive, at, string([]byte{archive[at] ^ 1<<bit}))
			got, e := crate.List(changed, anything)
			if same := e == crate.OK && slices.Equal(got, l.told); same != passedOver(at) {
				t.Errorf("bit %d of byte %d: %v, %d", bit, at, got, e)
			}
			if e == crate.OK && !passedOver(at) {
				t.Errorf("bit %d of byte %d is let through: %v", bit, at, got)
			}
			if e != crate.OK && len(got) != 0 {
				t.Errorf("bit %d of byte %d: entries beside an error: %v, %d", bit, at, got, e)
			}
		}
	}
}

func TestListOfAnyBytes(t *testing.T) {
	r := rand.New(rand.NewSource(5))
	base := []string{lay(stored("a", "one"), stored("b/c", "two")).archive(), lay(stored("a", "one")).wideArchive()}
	for round := range 20000 {
		bytes := []byte(base[round%2])
		for range 1 + r.Intn(6) {
			bytes[r.Intn(len(bytes))] = []byte{0, 1, 0x7f, 0x80, 0xff, byte(r.Intn(256))}[r.Intn(6)]
		}
		if got, e := crate.List(string(bytes), anything); e != crate.OK && len(got) != 0 || e < crate.OK || e > crate.ErrQuota {
			t.Errorf("%q: %v, %d", bytes, got, e)
		}
	}
}
