package crate_test

import (
	"fmt"
	"maps"
	"math"
	"math/rand"
	"slices"
	"strings"
	"sync"
	"sync/atomic"
	"testing"

	"crate/crate"
)

// extracts: Extract must answer this, with all allowed.
func extracts(t *testing.T, s *crate.Store, folder, archive string, want crate.Errno) {
	t.Helper()
	if e := s.Extract(folder, archive, anything); e != want {
		t.Errorf("Extract(%q) = %d, want %d", folder, e, want)
	}
}

// shows: Folders must tell just these.
func shows(t *testing.T, s *crate.Store, want ...string) {
	t.Helper()
	if got := s.Folders(); !slices.Equal(got, want) {
		t.Errorf("Folders = %q, want %q", got, want)
	}
}

// holds: Files must tell just these.
func holds(t *testing.T, s *crate.Store, folder string, want ...crate.File) {
	t.Helper()
	if got, e := s.Files(folder); e != crate.OK || !slices.Equal(got, want) {
		t.Errorf("Files(%q) = %.300q, %d, want %.300q", folder, got, e, want)
	}
}

// lacks: there is no such folder.
func lacks(t *testing.T, s *crate.Store, folder string) {
	t.Helper()
	if got, e := s.Files(folder); e != crate.ErrAbsent || got != nil {
		t.Errorf("Files(%q) = %.300q, %d, want %d", folder, got, e, crate.ErrAbsent)
	}
}

// contents are all folders of a store, with what they have.
func contents(t *testing.T, s *crate.Store) map[string][]crate.File {
	t.Helper()
	all := map[string][]crate.File{}
	for _, folder := range s.Folders() {
		files, e := s.Files(folder)
		if e != crate.OK {
			t.Errorf("Files(%q), which Folders tells: %d", folder, e)
		}
		all[folder] = files
	}
	return all
}

// staysAs: a store must show what it did, all of it and nothing else.
func staysAs(t *testing.T, what string, s *crate.Store, want map[string][]crate.File) {
	t.Helper()
	if got := contents(t, s); !maps.EqualFunc(got, want, slices.Equal[[]crate.File]) {
		t.Errorf("%s: the store shows %.300q, want %.300q", what, got, want)
	}
}

// mixed is an archive whose directory is in another order than its paths.
var (
	mixed = archiveOf(stored("e", "y"), inFixed("d/a", strings.Repeat("x", 17)), stored("b/c/", ""), stored("a!", ""))
	told  = []crate.File{file("a!", ""), file("b/", ""), file("b/c/", ""), file("d/", ""), file("d/a", strings.Repeat("x", 17)), file("e", "y")}
	wrong = archiveOf(item{name: "a", data: "b", size: 1}) // its sum is
)

func TestStoreAtFirst(t *testing.T) {
	s := crate.NewStore()
	shows(t, s)
	lacks(t, s, "")
	lacks(t, s, "a")
}

func TestExtractSeveralFolders(t *testing.T) {
	s := crate.NewStore()
	extracts(t, s, "b", mixed, crate.OK)
	shows(t, s, "b")
	holds(t, s, "b", told...)
	extracts(t, s, "nothing", nothing, crate.OK)
	extracts(t, s, "B", archiveOf(stored("only/", "")), crate.OK)
	extracts(t, s, "a b", mixed, crate.OK)
	extracts(t, s, "~", archiveOf(inPlain("f", "data")), crate.OK)
	extracts(t, s, "b!", archiveOf(stored("b", "")), crate.OK)
	extracts(t, s, " ", archiveOf(stored(" ", " ")), crate.OK)
	shows(t, s, " ", "B", "a b", "b", "b!", "nothing", "~")
	holds(t, s, " ", file(" ", " "))
	holds(t, s, "B", file("only/", ""))
	holds(t, s, "a b", told...)
	holds(t, s, "b", told...)
	holds(t, s, "b!", file("b", ""))
	holds(t, s, "nothing")
	holds(t, s, "~", file("f", "data"))
	for _, folder := range []string{"", "a", "bb", "b/", "/b", "b/d", "d", "d/", "d/a", "nothin", "N", "~\x00"} {
		lacks(t, s, folder)
	}
}

// TestStoreThatNewStoreDidNotMake is like any other.
func TestStoreThatNewStoreDidNotMake(t *testing.T) {
	var s crate.Store
	shows(t, &s)
	lacks(t, &s, "a")
	s.Boot()
	if e := s.Cut(0, true); e != crate.OK {
		t.Errorf("Cut = %d", e)
	}
	extracts(t, &s, "a", mixed, crate.ErrStep)
	extracts(t, &s, "a", mixed, crate.OK)
	holds(t, &s, "a", told...)
}

// TestFilesAreWhatUnpackTells, of archives of another writer, too.
func TestFilesAreWhatUnpackTells(t *testing.T) {
	s := crate.NewStore()
	r := rand.New(rand.NewSource(6))
	for count := range 30 {
		archive, folder := writtenByLibrary(r, count), fmt.Sprint("of ", count)
		extracts(t, s, folder, archive, crate.OK)
		unpacks(t, folder, archive, anything, contents(t, s)[folder]...)
	}
	long := strings.Repeat("0123456789abcdef.", 10000)
	extracts(t, s, "long", archiveOf(stored("f", long), deflated("g", pack(t, 6, long), long)), crate.OK)
	holds(t, s, "long", file("f", long), file("g", long))
}

func TestExtractNames(t *testing.T) {
	s := crate.NewStore()
	for b := range 256 {
		name := string([]byte{byte(b)})
		want := crate.OK
		if b < 32 || b > 126 || strings.Contains(`\:"/`, name) {
			want = crate.ErrArg
		}
		extracts(t, s, "in"+name+"side", nothing, want)
		if name != "." {
			extracts(t, s, name, nothing, want)
		}
	}
	before := contents(t, s)
	for _, name := range []string{
		"", "/", "//", "x/", "x/y", "/x", "x//", "x//y", "./x", "x/..", "../x", ".", "..", "./", "../",
		strings.Repeat("x", 61), strings.Repeat("x", 59) + "/", strings.Repeat("x", 60) + "/", strings.Repeat("x", 1<<20),
		"x\n", "\x00", "x\\y", "x:", `"x"`, "é", "x\x7f",
	} {
		extracts(t, s, name, mixed, crate.ErrArg)
		lacks(t, s, name)
	}
	staysAs(t, "behind wrong names", s, before)
	for _, name := range []string{"...", "..x", ".x", "x.", " x ", strings.Repeat("x", 59), strings.Repeat("x", 60), "$HOME", "* ?"} {
		extracts(t, s, name, mixed, crate.OK)
		holds(t, s, name, told...)
	}
}

func TestExtractTwice(t *testing.T) {
	s := crate.NewStore()
	extracts(t, s, "a", mixed, crate.OK)
	extracts(t, s, "nothing", nothing, crate.OK)
	before := contents(t, s)
	for _, archive := range []string{mixed, nothing, "", "x", wrong, archiveOf(stored("more", "data"))} {
		extracts(t, s, "a", archive, crate.ErrTwice)
		extracts(t, s, "nothing", archive, crate.ErrTwice)
		staysAs(t, "behind a name twice", s, before)
	}
	extracts(t, s, "A", mixed, crate.OK)
	extracts(t, s, "a ", mixed, crate.OK)
	shows(t, s, "A", "a", "a ", "nothing")
}

func TestExtractQuotas(t *testing.T) {
	s := crate.NewStore()
	just := crate.Quota{Entries: 4, Names: len("e" + "d/a" + "b/c/" + "a!"), Bytes: 18}
	for _, q := range append(lessThan(just), crate.Quota{Entries: -1, Names: -1, Bytes: -1}, crate.Quota{Entries: math.MinInt}) {
		if e := s.Extract("a", mixed, q); e != crate.ErrQuota {
			t.Errorf("Extract with %v = %d", q, e)
		}
		shows(t, s)
		lacks(t, s, "a")
	}
	if e := s.Extract("a", mixed, just); e != crate.OK {
		t.Errorf("Extract with just enough = %d", e)
	}
	holds(t, s, "a", told...)
}

// refusesExtract: Extract must answer this error, show nothing, and make no
// step: a Cut holds as it did. What is named ahead must be told instead.
func refusesExtract(t *testing.T, what, archive string, q crate.Quota, want crate.Errno) {
	t.Helper()
	s := crate.NewStore()
	extracts(t, s, "old", mixed, crate.OK)
	before := contents(t, s)
	s.Cut(0, false)
	for _, c := range []struct {
		folder string
		want   crate.Errno
	}{{"new", want}, {"old", crate.ErrTwice}, {"new/", crate.ErrArg}, {"old/", crate.ErrArg}, {"", crate.ErrArg}} {
		if e := s.Extract(c.folder, archive, q); e != c.want {
			t.Errorf("%s: Extract(%q) = %d, want %d", what, c.folder, e, c.want)
		}
	}
	staysAs(t, what, s, before)
	extracts(t, s, "new", nothing, crate.ErrStep)
	for _, folder := range []string{"new", "old", "new/", ""} {
		if e := s.Extract(folder, archive, q); e != crate.ErrStep {
			t.Errorf("%s: without power Extract(%q) = %d", what, folder, e)
		}
	}
	staysAs(t, what+", without power", s, before)
}

func TestExtractTellsTheFirstFault(t *testing.T) {
	tellsTheFirst(t, slices.Concat(faults, unpackFaults), refusesExtract)
	d := soundDraft()
	s := crate.NewStore()
	if e := s.Extract("no fault", d.archive(), d.q); e != crate.OK {
		t.Errorf("no fault: %d", e)
	}
	unpacks(t, "no fault", d.archive(), d.q, contents(t, s)["no fault"]...)
}

// TestExtractOfAnyBytes: what is no archive is never shown.
func TestExtractOfAnyBytes(t *testing.T) {
	s := crate.NewStore()
	r := rand.New(rand.NewSource(7))
	for i := range 3000 {
		bytes := []byte(mixed)
		for range 1 + r.Intn(3) {
			bytes[r.Intn(len(bytes))] = byte(r.Intn(256))
		}
		archive, folder := string(bytes[:len(bytes)-r.Intn(2)*r.Intn(len(bytes))]), fmt.Sprint(i)
		want, e := crate.Unpack(archive, anything)
		extracts(t, s, folder, archive, e)
		if e == crate.OK {
			holds(t, s, folder, want...)
		} else {
			lacks(t, s, folder)
		}
	}
}

// TestListsOfAStoreAreNewMemory: writing into them changes nothing that is told.
func TestListsOfAStoreAreNewMemory(t *testing.T) {
	s := crate.NewStore()
	extracts(t, s, "a", mixed, crate.OK)
	extracts(t, s, "b", mixed, crate.OK)
	extracts(t, s, "nothing", nothing, crate.OK)
	before := contents(t, s)
	other, _ := s.Files("a")
	for _, folder := range []string{"a", "b", "nothing"} {
		files, _ := s.Files(folder)
		for i := range files {
			files[i] = file("mine", "mine")
		}
		_ = append(files[:0], file("mine", "more"))
		_ = append(files, file("mine", "more"))
		folders := s.Folders()
		_ = append(folders, "mine")
		for i := range folders {
			folders[i] = "mine"
		}
		staysAs(t, "behind lists written into", s, before)
	}
	if !slices.Equal(other, told) {
		t.Errorf("a list that came out earlier is %q", other)
	}
}

// model is a store as the document tells of it, which counts steps and makes none.
type model struct {
	shown        map[string][]crate.File
	cut, noPower bool
	left         int
	fails        bool
}

// stepsFor counts the steps that make these and show them.
func stepsFor(files []crate.File) int {
	count := 1
	for _, f := range files {
		count += 1 + (len(f.Data)+15)/16
	}
	return count
}

func (m *model) extract(folder, archive string) crate.Errno {
	_, twice := m.shown[folder]
	files, e := crate.Unpack(archive, anything)
	need := stepsFor(files)
	switch {
	case m.noPower:
		return crate.ErrStep
	case strings.Contains(folder, "/"):
		return crate.ErrArg
	case twice:
		return crate.ErrTwice
	case e != crate.OK:
		return e
	case m.cut && m.left < need:
		m.cut, m.noPower = false, !m.fails
		return crate.ErrStep
	}
	m.left -= need
	m.shown[folder] = files
	return crate.OK
}

// anyOf is one call with a store and a model, which must answer the same.
func anyOf(t *testing.T, r *rand.Rand, s *crate.Store, m *model) {
	t.Helper()
	archives := []string{mixed, nothing, "x", wrong, archiveOf(stored("f", strings.Repeat("x", r.Intn(70))))}
	switch r.Intn(8) {
	case 0:
		n, fails := r.Intn(30)-3, r.Intn(2) == 0
		want := crate.ErrArg
		if n >= 0 {
			m.cut, m.left, m.fails = true, n, fails
			want = crate.OK
		}
		if e := s.Cut(n, fails); e != want {
			t.Errorf("Cut(%d) = %d, want %d", n, e, want)
		}
	case 1:
		s.Boot()
		m.cut, m.noPower = false, false
	default:
		folder, archive := fmt.Sprint(r.Intn(60)), archives[r.Intn(len(archives))]
		if r.Intn(9) == 0 {
			folder += "/"
		}
		extracts(t, s, folder, archive, m.extract(folder, archive))
	}
}

// TestStoresByTurns: they have nothing to do with one another.
func TestStoresByTurns(t *testing.T) {
	r := rand.New(rand.NewSource(8))
	for range 60 {
		var stores [3]*crate.Store
		var models [3]*model
		for i := range stores {
			stores[i], models[i] = crate.NewStore(), &model{shown: map[string][]crate.File{}}
		}
		for range 150 {
			i := r.Intn(len(stores))
			anyOf(t, r, stores[i], models[i])
		}
		for i, s := range stores {
			staysAs(t, fmt.Sprint("store ", i), s, models[i].shown)
			shows(t, s, slices.Sorted(maps.Keys(models[i].shown))...)
		}
	}
}

// TestCutAndPowerOfOneStoreAlone: another one does not feel it.
func TestCutAndPowerOfOneStoreAlone(t *testing.T) {
	one, other := crate.NewStore(), crate.NewStore()
	one.Cut(0, false)
	extracts(t, other, "a", mixed, crate.OK)
	extracts(t, one, "a", mixed, crate.ErrStep)
	extracts(t, other, "b", mixed, crate.OK)
	other.Boot()
	extracts(t, one, "a", mixed, crate.ErrStep)
	other.Cut(0, true)
	one.Boot()
	extracts(t, one, "a", nothing, crate.OK)
	extracts(t, other, "c", mixed, crate.ErrStep)
	shows(t, one, "a")
	holds(t, one, "a")
	shows(t, other, "a", "b")
	shows(t, crate.NewStore())
}

// together runs calls in goroutines of their own, and counts their answers.
func together(count int, call func(i int) crate.Errno) map[crate.Errno]int {
	var group sync.WaitGroup
	answers := make([]crate.Errno, count)
	for i := range count {
		group.Go(func() { answers[i] = call(i) })
	}
	group.Wait()
	counts := map[crate.Errno]int{}
	for _, e := range answers {
		counts[e]++
	}
	return counts
}

// seesWhole: whatever is shown at this time is the whole of its archive.
func seesWhole(t *testing.T, s *crate.Store) {
	t.Helper()
	folders := s.Folders()
	if !slices.IsSorted(folders) {
		t.Errorf("Folders = %q", folders)
	}
	for _, folder := range folders {
		holds(t, s, folder, told...)
	}
}

// TestOneStoreFromSeveralGoroutines: each call is done as if it were alone, so
// that how many steps there are says how many of them can be done.
func TestOneStoreFromSeveralGoroutines(t *testing.T) {
	const count = 40
	need := stepsFor(told)
	for _, c := range []struct {
		name    string
		cut     int
		fails   bool
		folders int // how many names there are
		want    map[crate.Errno]int
	}{
		{"names of their own", count * need, true, count, map[crate.Errno]int{crate.OK: count}},
		{"several of a name", math.MaxInt, true, 10, map[crate.Errno]int{crate.OK: 10, crate.ErrTwice: count - 10}},
		{"all of one name", need, false, 1, map[crate.Errno]int{crate.OK: 1, crate.ErrTwice: count - 1}},
		{"one that fails", 15*need + need/2, true, count, map[crate.Errno]int{crate.OK: count - 1, crate.ErrStep: 1}},
		{"the power goes", 15*need + need/2, false, count, map[crate.Errno]int{crate.OK: 15, crate.ErrStep: count - 15}},
		{"the power goes at once", 0, false, count, map[crate.Errno]int{crate.ErrStep: count}},
	} {
		s := crate.NewStore()
		s.Cut(c.cut, c.fails)
		got := together(count, func(i int) crate.Errno {
			seesWhole(t, s)
			e := s.Extract(fmt.Sprint(i%c.folders), mixed, anything)
			seesWhole(t, s)
			return e
		})
		if !maps.Equal(got, c.want) || len(s.Folders()) != c.want[crate.OK] {
			t.Errorf("%s: answers %v, want %v; %d folders", c.name, got, c.want, len(s.Folders()))
		}
		seesWhole(t, s)
	}
}

// during makes calls over and over, each in a goroutine of its own, as long as
// the work goes on.
func during(work func(), calls ...func()) {
	var group sync.WaitGroup
	var ended atomic.Bool
	for _, call := range calls {
		group.Go(func() {
			for !ended.Load() {
				call()
			}
		})
	}
	work()
	ended.Store(true)
	group.Wait()
}

// TestStoreIsAskedWhileItExtracts: a call that did not wait for another one
// would be seen.
func TestStoreIsAskedWhileItExtracts(t *testing.T) {
	s := crate.NewStore()
	archive := archiveOf(ofSize(999))
	want, _ := crate.Unpack(archive, anything)
	const count = 1000
	during(func() {
		for i := range count {
			extracts(t, s, fmt.Sprint(i), archive, crate.OK)
		}
	}, s.Boot, func() { s.Folders() }, func() {
		if files, e := s.Files("9"); e == crate.OK && !slices.Equal(files, want) {
			t.Errorf("Files = %.300q", files)
		}
	})
	for i := range count {
		holds(t, s, fmt.Sprint(i), want...)
	}
}

// TestCutWhileItExtracts: of two Cuts the one that can be met fails, so that the
// power never goes.
func TestCutWhileItExtracts(t *testing.T) {
	s := crate.NewStore()
	during(func() {
		for i := range 1000 {
			if e := s.Extract(fmt.Sprint(i), mixed, anything); e != crate.OK && e != crate.ErrStep {
				t.Errorf("Extract = %d", e)
			}
		}
	}, func() { s.Cut(0, true) }, func() { s.Cut(math.MaxInt, false) })
	seesWhole(t, s)
	cuts(t, s, math.MaxInt, false)
	extracts(t, s, "last", mixed, crate.OK)
}

// TestLongExtractsFromSeveralGoroutines: none begins while another is not done.
func TestLongExtractsFromSeveralGoroutines(t *testing.T) {
	text := strings.Repeat("x", 1<<18)
	archive := archiveOf(deflated("f", pack(t, 9, text), text))
	want := map[crate.Errno]int{crate.OK: 1, crate.ErrTwice: 7}
	for range 5 {
		s := crate.NewStore()
		got := together(8, func(int) crate.Errno { return s.Extract("a", archive, anything) })
		if !maps.Equal(got, want) {
			t.Errorf("answers %v, want %v", got, want)
		}
		holds(t, s, "a", file("f", text))
	}
}

// TestCutAndBootFromSeveralGoroutines: just what was answered OK is shown.
func TestCutAndBootFromSeveralGoroutines(t *testing.T) {
	s := crate.NewStore()
	const count = 60
	var done [count]bool
	together(count, func(i int) crate.Errno {
		s.Cut(i, i%2 == 0)
		e := s.Extract(fmt.Sprint(i), mixed, anything)
		done[i] = e == crate.OK
		if e != crate.OK && e != crate.ErrStep {
			t.Errorf("Extract = %d", e)
		}
		s.Boot()
		seesWhole(t, s)
		return e
	})
	want := map[string][]crate.File{}
	for i, ok := range done {
		if ok {
			want[fmt.Sprint(i)] = told
		}
	}
	staysAs(t, "at last", s, want)
	s.Boot()
	extracts(t, s, "last", mixed, crate.OK)
}
