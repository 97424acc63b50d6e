package crate_test

import (
	"fmt"
	"io"
	"math"
	"math/rand"
	"slices"
	"strings"
	"testing"

	"crate/crate"
)

// unpacks: Unpack must tell just these files and folders.
func unpacks(t *testing.T, what, archive string, q crate.Quota, want ...crate.File) {
	t.Helper()
	if got, e := crate.Unpack(archive, q); e != crate.OK || !slices.Equal(got, want) {
		t.Errorf("%s: Unpack = %.300q, %d, want %.300q", what, got, e, want)
	}
}

// refusesUnpack: Unpack must answer this error, and nothing else.
func refusesUnpack(t *testing.T, what, archive string, q crate.Quota, want crate.Errno) {
	t.Helper()
	if got, e := crate.Unpack(archive, q); e != want || got != nil {
		t.Errorf("%s: Unpack = %.300q, %d, want %d", what, got, e, want)
	}
}

// refusesFile: Unpack must answer this error for a file, whether it is alone or
// stands ahead of sound ones or behind them.
func refusesFile(t *testing.T, what string, want crate.Errno, it item) {
	t.Helper()
	refusesUnpack(t, what, archiveOf(it), anything, want)
	refusesUnpack(t, what+", the first", archiveOf(it, stored("sound", "1"), stored("folder/", "")), anything, want)
	refusesUnpack(t, what+", the last", archiveOf(stored("folder/", ""), stored("sound", "1"), it), anything, want)
}

// file is what must be told of a file, or of a folder, which has no data.
func file(path, data string) crate.File { return crate.File{Path: path, Data: data} }

// empty are what must be told of folders and empty files; their paths are in
// one text.
func empty(paths string) []crate.File {
	var list []crate.File
	for _, path := range strings.Fields(paths) {
		list = append(list, file(path, ""))
	}
	return list
}

// inFixed is a packed file: one FIXED block of single letters.
func inFixed(name, text string) item {
	return deflated(name, (&packer{}).fixed(lastBlock).text(text).letter(256).String(), text)
}

// inPlain is a packed file: one PLAIN block.
func inPlain(name, text string) item {
	return deflated(name, (&packer{}).plain(lastBlock, text).String(), text)
}

func TestUnpackOfNothing(t *testing.T) {
	unpacks(t, "nothing", nothing, crate.Quota{})
	unpacks(t, "nothing, wide", lay().wideArchive(), crate.Quota{})
	refusesUnpack(t, "no archive", "", anything, crate.ErrEnd)
}

func TestUnpackOfFiles(t *testing.T) {
	every := ""
	for b := range 256 {
		every += string([]byte{byte(b)})
	}
	long := strings.Repeat("the cat and the hat; ", 5000)
	for _, text := range []string{"data", "a", "", "\x00", every, long, "PK\x01\x02PK\x03\x04PK\x05\x06", "PK\x07\x08" + low(0, 12), nothing} {
		want := file("f", text)
		what := fmt.Sprintf("%.40q", text)
		unpacks(t, what+", plain", archiveOf(stored("f", text)), anything, want)
		unpacks(t, what+", a FIXED block", archiveOf(inFixed("f", text)), anything, want)
		for _, level := range []int{0, 1, 6, 9} {
			unpacks(t, fmt.Sprint(what, ", packed by ", level), archiveOf(deflated("f", pack(t, level, text), text)), anything, want)
			unpacks(t, fmt.Sprint(what, ", in several blocks"), archiveOf(deflated("f", pack(t, level, text, "", "end"), text+"end")), anything, file("f", text+"end"))
		}
	}
	unpacks(t, "a PLAIN block", archiveOf(inPlain("f", every)), anything, file("f", every))
	unpacks(t, "several", archiveOf(inFixed("c", "3"), stored("a", "1"), stored("d", ""), inPlain("b", "2")), anything,
		file("a", "1"), file("b", "2"), file("c", "3"), file("d", ""))
	unpacks(t, "wide", lay(stored("a", "1"), inFixed("b", "2")).wideArchive(), anything, file("a", "1"), file("b", "2"))
}

// TestUnpackOfEmptyPackedFiles: blocks that give nothing must be there.
func TestUnpackOfEmptyPackedFiles(t *testing.T) {
	for _, blocks := range []string{"\x03\x00", "\x01\x00\x00\xff\xff", "\x00\x00\x00\xff\xff\x03\x00"} {
		it := deflated("f", blocks, "")
		unpacks(t, fmt.Sprintf("%x", blocks), archiveOf(it), anything, file("f", ""))
		it.size = 1
		refusesFile(t, fmt.Sprintf("%x, a size", blocks), crate.ErrSize, it)
		it.size, it.sum = 0, 1
		refusesFile(t, fmt.Sprintf("%x, a sum", blocks), crate.ErrSum, it)
	}
	refusesFile(t, "no block", crate.ErrData, deflated("f", "", ""))
	refusesFile(t, "half of a block", crate.ErrData, deflated("f", "\x03", ""))
}

func TestUnpackOfFolders(t *testing.T) {
	for _, c := range []struct{ names, want string }{
		{"a/", "a/"},
		{"a/b/", "a/ a/b/"},
		{"a/b/c/", "a/ a/b/ a/b/c/"},
		{"a/ a/b/", "a/ a/b/"},
		{"a/b/ a/", "a/ a/b/"},
		{"a/b", "a/ a/b"},
		{"a/ a/b", "a/ a/b"},
		{"a/b a/", "a/ a/b"},
		{"a/b/c", "a/ a/b/ a/b/c"},
		{"a/b/c a/b/ a/", "a/ a/b/ a/b/c"},
		{"a/b/c a/b/d a/e b/f", "a/ a/b/ a/b/c a/b/d a/e b/ b/f"},
		{"a/b/ a/b/c/d/ a/c", "a/ a/b/ a/b/c/ a/b/c/d/ a/c"},
		{"b/a a/b", "a/ a/b b/ b/a"},
		{"a/a/a/a", "a/ a/a/ a/a/a/ a/a/a/a"},
		{"x/ y", "x/ y"},
		{"a/ A/", "A/ a/"},
	} {
		names := strings.Fields(c.names)
		unpacks(t, c.names, archiveOf(namesOf(names...)...), anything, empty(c.want)...)
		slices.Reverse(names)
		unpacks(t, c.names+", turned", archiveOf(namesOf(names...)...), anything, empty(c.want)...)
	}
	unpacks(t, "the document's", archiveOf(stored("a/b", "data"), stored("a/", "")), anything, file("a/", ""), file("a/b", "data"))
	refusesUnpack(t, "the document's file in a file", archiveOf(stored("a", ""), stored("a/b", "")), anything, crate.ErrTwice)
	deep := strings.Repeat("d/", 30)
	var want []crate.File
	for i := range 30 {
		want = append(want, file(deep[:2*i+2], ""))
	}
	unpacks(t, "as deep as may be", archiveOf(stored(deep, "")), anything, want...)
}

// TestUnpackLooksNotIntoFolders: neither at their sums, nor for blocks.
func TestUnpackLooksNotIntoFolders(t *testing.T) {
	for _, method := range []int{0, 8} {
		for _, flags := range []int{0, 8} {
			it := item{name: "d/", method: method, flags: flags, sum: 77}
			unpacks(t, fmt.Sprint("the method ", method, ", flags ", flags), archiveOf(it, stored("d/f", "x")), anything, file("d/", ""), file("d/f", "x"))
		}
	}
}

// TestUnpackFindsTheBytes, whatever stands around them.
func TestUnpackFindsTheBytes(t *testing.T) {
	for _, base := range []item{stored("a", "what it is"), inFixed("a", "what it is"), inPlain("a", "what it is")} {
		for name, change := range map[string]func(it *item){
			"x bytes ahead":                func(it *item) { it.more = "more bytes" },
			"a gap":                        func(it *item) { it.gap = "PK\x03\x04 a gap" },
			"extras and a remark":          func(it *item) { it.extras, it.remark = extra(9, "times"), "a remark" },
			"numbers ahead and behind":     func(it *item) { it.flags = 8 },
			"numbers behind":               func(it *item) { it.flags, it.noughts = 8, true },
			"numbers behind, and in extra": func(it *item) { it.flags, it.noughts, it.wide = 8, true, "size packed place" },
			"all of it": func(it *item) {
				it.more, it.gap, it.extras, it.remark, it.flags, it.wide = "xx", "gap", extra(1000, "y"), "z", 8|2048, "packed place"
			},
		} {
			it := base
			change(&it)
			want := []crate.File{file("a", "what it is"), file("b", "what it is"), file("c", "")}
			unpacks(t, name, archiveOf(it, it.with("b"), stored("c", "")), anything, want...)
			unpacks(t, name+", wide", lay(it, it.with("b"), stored("c", "")).wideArchive(), anything, want...)
		}
		for _, wide := range wides() {
			it := base
			it.wide = wide
			unpacks(t, "in extras: "+wide, archiveOf(stored("0/", ""), it), anything, file("0/", ""), file("a", "what it is"))
		}
	}
}

func TestUnpackWhereSpansLieInAnotherOrder(t *testing.T) {
	a, b, c := stored("a", "aaa"), inFixed("b", "bb"), stored("c", "c")
	l := lay(a, b, c)
	placeB, placeC := len(a.span()), len(a.span()+b.span())
	l.directory = c.entry(placeC) + a.entry(0) + b.entry(placeB)
	unpacks(t, "turned", l.archive(), anything, file("a", "aaa"), file("b", "bb"), file("c", "c"))
}

// TestUnpackOrder: of parts, not of the paths' bytes: ` ` to `.` are below `/`.
func TestUnpackOrder(t *testing.T) {
	for _, want := range []string{
		"a/ a/b a!",
		"a/ a/b a!/ a!/b a!b",
		"a/ a/b a- a-b a.b a0",
		"a/ a/z/ a/z/z a!b aa",
		"a/ a/b/ a/b/c a/b! a! a!!",
		"a/ a/a a/b a.txt",
		"a aa aaa ab b",
		"a/ a/~ ab",
		"A B a b ~",
		"!/ !/! a/ a/!",
		"0 1 10 2",
		"a/ a/a/ a/a/z a/a! a/aa a/b b",
		"b/ b/c/ b/c/d b/c! b!",
	} {
		names := strings.Fields(want)
		for turn := range names {
			unpacks(t, want, archiveOf(namesOf(slices.Concat(names[turn:], names[:turn])...)...), anything, empty(want)...)
		}
		slices.Reverse(names)
		unpacks(t, want+", turned", archiveOf(namesOf(names...)...), anything, empty(want)...)
		names = slices.DeleteFunc(names, func(name string) bool { return strings.HasSuffix(name, "/") })
		unpacks(t, want+", no folder named", archiveOf(namesOf(names...)...), anything, empty(want)...)
	}
	unpacks(t, "spaces", archiveOf(namesOf("a b", "a/b", "a ", "a/ ")...), anything, file("a/", ""), file("a/ ", ""), file("a/b", ""), file("a ", ""), file("a b", ""))
}

// compareAsSaid holds paths against each other as lists of parts.
func compareAsSaid(a, b crate.File) int {
	parts := func(path string) []string { return strings.Split(strings.TrimSuffix(path, "/"), "/") }
	return slices.Compare(parts(a.Path), parts(b.Path))
}

// withFolders adds to files the folders that lead to them, and sorts all.
func withFolders(list []crate.File) []crate.File {
	for _, f := range list {
		parts := strings.SplitAfter(f.Path, "/")
		for i := 1; i < len(parts); i++ {
			list = append(list, file(strings.Join(parts[:i], ""), ""))
		}
	}
	slices.SortFunc(list, compareAsSaid)
	return slices.Compact(list)
}

// TestUnpackOrderOfAnyNames: short ones, so that they are often alike.
func TestUnpackOrderOfAnyNames(t *testing.T) {
	r := rand.New(rand.NewSource(6))
	told := 0
	for range 20000 {
		var items []item
		var want []crate.File
		for range 1 + r.Intn(6) {
			name := ""
			for range 1 + r.Intn(5) {
				name += string("ab! ./~A0"[r.Intn(9)])
			}
			data := ""
			if !strings.HasSuffix(name, "/") {
				data = fmt.Sprint(r.Intn(100))
			}
			items, want = append(items, stored(name, data)), append(want, file(name, data))
		}
		archive := archiveOf(items...)
		if _, e := crate.List(archive, anything); e != crate.OK {
			refusesUnpack(t, fmt.Sprintf("%q", want), archive, anything, e)
			continue
		}
		told++
		unpacks(t, fmt.Sprintf("%q", want), archive, anything, withFolders(want)...)
	}
	if told < 2000 {
		t.Errorf("only %d archives had names that go together", told)
	}
}

// TestUnpackOfArchivesOfAnotherWriter holds Unpack against the library's reader.
func TestUnpackOfArchivesOfAnotherWriter(t *testing.T) {
	r := rand.New(rand.NewSource(7))
	for count := range 40 {
		archive := writtenByLibrary(r, count)
		unpacks(t, fmt.Sprint(count, " entries"), archive, anything, withFolders(unpackByLibrary(t, archive))...)
	}
}

func unpackByLibrary(t *testing.T, archive string) []crate.File {
	t.Helper()
	var list []crate.File
	for _, f := range readByLibrary(t, archive) {
		in, err := f.Open()
		if err != nil {
			t.Fatal(err)
		}
		data, err := io.ReadAll(in)
		if err != nil {
			t.Fatal(err)
		}
		list = append(list, file(f.Name, string(data)))
	}
	return list
}

// TestUnpackSizes: one that is just met, and all others.
func TestUnpackSizes(t *testing.T) {
	text := strings.Repeat("some text, ", 30) + "end"
	for _, it := range []item{inFixed("f", text), inPlain("f", text), deflated("f", pack(t, 9, text), text)} {
		unpacks(t, "just met", archiveOf(it), anything, file("f", text))
		for _, size := range []int{len(text) - 1, len(text) + 1, 0, 1, 2 * len(text), math.MaxUint32 - 1} {
			it.size = size
			refusesFile(t, fmt.Sprint("the size ", size), crate.ErrSize, it)
		}
		it.wide = "size"
		for _, size := range []int{math.MaxUint32, 1 << 32, len(text) + 1<<32, 1 << 40} {
			it.size = size
			refusesFile(t, fmt.Sprint("in an extra, the size ", size), crate.ErrSize, it)
		}
	}
}

// TestUnpackMuchFromLittle: a size that is told too small holds it back.
func TestUnpackMuchFromLittle(t *testing.T) {
	text := strings.Repeat("\x00", 5000000)
	it := deflated("f", pack(t, 9, text), text)
	unpacks(t, "all of it", archiveOf(it), crate.Quota{Entries: 1, Names: 1, Bytes: len(text)}, file("f", text))
	refusesUnpack(t, "less allowed", archiveOf(it), crate.Quota{Entries: 1, Names: 1, Bytes: len(text) - 1}, crate.ErrQuota)
	it.size = 10
	refusesUnpack(t, "said to be little", archiveOf(it), crate.Quota{Entries: 1, Names: 1, Bytes: 10}, crate.ErrSize)
}

func TestUnpackTakesAllPackedBytes(t *testing.T) {
	text := strings.Repeat("some text, ", 9) + "end"
	for _, base := range []item{inFixed("f", text), inPlain("f", text), deflated("f", pack(t, 9, text), text)} {
		packed := base.data
		for _, behind := range []string{"x", "\x00", "\x03\x00", packed, strings.Repeat("\xff", 100)} {
			it := base
			it.data += behind
			refusesFile(t, fmt.Sprintf("behind the last block: %.20x", behind), crate.ErrData, it)
			it.flags = 8
			refusesFile(t, fmt.Sprintf("behind it, and ahead of numbers: %.20x", behind), crate.ErrData, it)
		}
		for end := range packed {
			it := base
			it.data = packed[:end]
			refusesFile(t, fmt.Sprint("only ", end, " bytes"), crate.ErrData, it)
		}
	}
}

func TestUnpackOfWrongBlocks(t *testing.T) {
	it := inFixed("f", "text")
	for _, packed := range []string{
		"\x07", "\x06\x00", "\x01\x02\x00\xfc\xffab", "\x05", "\x00\x00\x00\xff\xff\x07",
		(&packer{}).fixed(lastBlock).text("t").letter(257).distance(1).letter(256).String(),
		(&packer{}).fixed(lastBlock).text("text").letter(286).letter(256).String(),
		(&packer{}).fixed(moreComes).text("text").letter(256).String(),
	} {
		it.data = packed
		refusesFile(t, fmt.Sprintf("%x", packed), crate.ErrData, it)
	}
}

// TestUnpackOfBlocksThatGetWrong: behind what they give. A size that is passed
// by one ahead of that is told, one that is met or not reached is not.
func TestUnpackOfBlocksThatGetWrong(t *testing.T) {
	for name, p := range map[string]*packer{
		"a wrong block":   (&packer{}).fixed(moreComes).text("text").letter(256).number(7, 3),
		"no more bytes":   (&packer{}).fixed(lastBlock).text("text"),
		"a wrong letter":  (&packer{}).fixed(lastBlock).text("text").letter(287),
		"no bytes behind": (&packer{}).plain(moreComes, "text"),
	} {
		it := deflated("f", p.String(), "text")
		for size, want := range map[int]crate.Errno{
			0: crate.ErrSize, 3: crate.ErrSize, 4: crate.ErrData, 5: crate.ErrData, 1000: crate.ErrData,
		} {
			it.size = size
			refusesFile(t, fmt.Sprint(name, ", the size ", size), want, it)
		}
	}
}

func TestUnpackSums(t *testing.T) {
	for _, base := range []item{stored("f", "data"), inFixed("f", "data"), inPlain("f", "data"), stored("f", ""), inFixed("f", "")} {
		for bit := range 32 {
			it := base
			it.sum ^= 1 << bit
			refusesFile(t, fmt.Sprint("bit ", bit), crate.ErrSum, it)
			it.flags, it.noughts = 8, true
			refusesFile(t, fmt.Sprint("bit ", bit, ", behind the file"), crate.ErrSum, it)
		}
	}
	plain := stored("f", "data")
	for at := range plain.data {
		it := plain
		it.data = put(it.data, at, "x")
		refusesFile(t, fmt.Sprint("another byte at ", at), crate.ErrSum, it)
	}
	packed := inFixed("f", "data")
	packed.data = inFixed("f", "dada").data
	refusesFile(t, "packed, other bytes of this size", crate.ErrSum, packed)
}

// fileFaults are what can be wrong with a packed file.
var fileFaults = []struct {
	name string
	e    crate.Errno
	make func(it *item)
}{
	{"a wrong block", crate.ErrData, func(it *item) { it.data = "\x07" + it.data }},
	{"a size less", crate.ErrSize, func(it *item) { it.size-- }},
	{"a size more", crate.ErrSize, func(it *item) { it.size += 2 }},
	{"a byte behind", crate.ErrData, func(it *item) { it.data += "x" }},
	{"another sum", crate.ErrSum, func(it *item) { it.sum++ }},
}

// TestUnpackOfTwoFaults: in one file the one named first is told, with the
// others or without; of two files that of the one which the directory has first,
// though its path and its bytes come later.
func TestUnpackOfTwoFaults(t *testing.T) {
	for i, f := range fileFaults {
		for _, other := range fileFaults[i:] {
			it := inFixed("f", "some text")
			f.make(&it)
			if other.name != f.name {
				other.make(&it)
			}
			refusesFile(t, f.name+", "+other.name, f.e, it)
		}
		for _, other := range fileFaults {
			early, late := inFixed("z", "some text"), inFixed("a", "other text")
			f.make(&early)
			other.make(&late)
			l := lay(late, early)
			l.directory = early.entry(len(late.span())) + late.entry(0)
			refusesUnpack(t, f.name+", in another file "+other.name, l.archive(), anything, f.e)
		}
		wrongSum := stored("plain", "data")
		wrongSum.sum++
		it := inFixed("f", "some text")
		f.make(&it)
		refusesUnpack(t, f.name+", then a plain file's sum", archiveOf(it, wrongSum), anything, f.e)
		refusesUnpack(t, "a plain file's sum, then "+f.name, archiveOf(wrongSum, it), anything, crate.ErrSum)
	}
}

func TestUnpackQuotas(t *testing.T) {
	archive := archiveOf(stored("a", "data"), stored("folder/", ""), inFixed("b/d", "123456789"))
	want := []crate.File{file("a", "data"), file("b/", ""), file("b/d", "123456789"), file("folder/", "")}
	just := crate.Quota{Entries: 3, Names: 11, Bytes: 13}
	unpacks(t, "just met", archive, just, want...)
	for _, q := range lessThan(just) {
		refusesUnpack(t, fmt.Sprint(q), archive, q, crate.ErrQuota)
	}
	refusesUnpack(t, "nothing, and less allowed", nothing, crate.Quota{Bytes: -1}, crate.ErrQuota)
}

func TestUnpackIsNewMemory(t *testing.T) {
	archive := archiveOf(stored("a/b", "1"), inFixed("c", "2"))
	want := []crate.File{file("a/", ""), file("a/b", "1"), file("c", "2")}
	first, _ := crate.Unpack(archive, anything)
	second, _ := crate.Unpack(archive, anything)
	for i := range first {
		first[i] = file("changed", "changed")
	}
	if !slices.Equal(second, want) {
		t.Errorf("an answer changed with another one: %q", second)
	}
	unpacks(t, "once more", archive, anything, want...)
}

// TestUnpackNoticesEachBit turns each bit of an archive: what comes out is the
// same as ever, or nothing.
func TestUnpackNoticesEachBit(t *testing.T) {
	later := inFixed("c", "three, three")
	later.flags, later.noughts = 8, true
	archive := archiveOf(stored("a/b", "one"), stored("d/", ""), later, deflated("e", pack(t, 9, "four, four, four"), "four, four, four"))
	want, _ := crate.Unpack(archive, anything)
	for at := range archive {
		for bit := range 8 {
			changed := put(archive, at, string([]byte{archive[at] ^ 1<<bit}))
			got, e := crate.Unpack(changed, anything)
			if e == crate.OK && !slices.Equal(got, want) || e != crate.OK && got != nil {
				t.Errorf("bit %d of byte %d: %q, %d", bit, at, got, e)
			}
		}
	}
}

// TestUnpackOfAnyBytes: no bytes make it panic, or tell something beside an error.
func TestUnpackOfAnyBytes(t *testing.T) {
	r := rand.New(rand.NewSource(8))
	l := lay(stored("a", "one"), inFixed("b/c", "two, two"), deflated("b/d", pack(t, 9, "three, three, three"), "three, three, three"))
	base := []string{l.archive(), l.wideArchive()}
	for round := range 40000 {
		bytes := []byte(base[round%2])
		for range 1 + r.Intn(4) {
			bytes[r.Intn(len(bytes))] = []byte{0, 1, 0x7f, 0x80, 0xff, byte(r.Intn(256))}[r.Intn(6)]
		}
		archive := string(bytes)
		got, e := crate.Unpack(archive, anything)
		_, listed := crate.List(archive, anything)
		if listed != crate.OK && e != listed || e != crate.OK && got != nil {
			t.Errorf("%q: %q, %d, List tells %d", archive, got, e, listed)
		}
		if listed == crate.OK && !slices.Contains([]crate.Errno{crate.OK, crate.ErrData, crate.ErrSize, crate.ErrSum}, e) {
			t.Errorf("%q: %d", archive, e)
		}
	}
}
